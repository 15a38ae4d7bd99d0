"""Promises 2 to 4: sample, drop and value change the samples."""

import unittest

from words import DROP, NEAR, POINT, SAMPLE, VALUE, last, run

TWENTY = [(SAMPLE, x, 0, 0, x) for x in range(20)]


class Sample(unittest.TestCase):
    def test_they_are_numbered_as_they_come(self):
        self.assertEqual(
            run((SAMPLE, 5, 0, 0, 1), (SAMPLE, 0, 5, 0, 1), (SAMPLE, 0, 0, 5, 1)), [[0, 1], [0, 2], [0, 3]])

    def test_no_number_is_given_again(self):
        told = run((SAMPLE, 0, 0, 0, 1), (SAMPLE, 1, 0, 0, 1), (DROP, 2), (SAMPLE, 1, 0, 0, 1), (DROP, 1), (DROP, 3),
                   (SAMPLE, 0, 0, 0, 1))
        self.assertEqual(told, [[0, 1], [0, 2], [0, 1], [0, 3], [0, 1], [0, 0], [0, 4]])

    def test_two_at_one_place(self):
        told = run((SAMPLE, 1, 2, 3, 4), (SAMPLE, 1, 2, 3, 4), (SAMPLE, 1, 2, 3, 5), (SAMPLE, 1, 2, 4, 5),
                   (SAMPLE, 1, 3, 3, 5), (SAMPLE, 0, 2, 3, 5))
        self.assertEqual(told, [[0, 1], [-2], [-2], [0, 2], [0, 3], [0, 4]])

    def test_a_refused_one_leaves_the_value(self):
        self.assertEqual(last((SAMPLE, 1, 2, 3, 4), (SAMPLE, 1, 2, 3, 5), (VALUE, 1, 6)), [0, 4])

    def test_a_place_is_free_again_after_a_drop(self):
        self.assertEqual(last((SAMPLE, 1, 2, 3, 4), (DROP, 1), (SAMPLE, 1, 2, 3, 4)), [0, 2])

    def test_the_twentieth_and_the_one_after_it(self):
        told = run(*TWENTY, (SAMPLE, 20, 0, 0, 20))
        self.assertEqual(told[18:], [[0, 19], [0, 20], [-3]])

    def test_room_again_after_a_drop_and_a_refused_one_takes_no_number(self):
        told = run(*TWENTY, (SAMPLE, 20, 0, 0, 20), (DROP, 7), (SAMPLE, 20, 0, 0, 20), (SAMPLE, 21, 0, 0, 21))
        self.assertEqual(told[20:], [[-3], [0, 19], [0, 21], [-3]])

    def test_of_twenty_the_place_is_looked_at_before_the_room(self):
        self.assertEqual(last(*TWENTY, (SAMPLE, 19, 0, 0, 1)), [-2])


class Drop(unittest.TestCase):
    def test_it_answers_how_many_are_left(self):
        told = run(*TWENTY[:3], (DROP, 2), (DROP, 3), (DROP, 1))
        self.assertEqual(told[3:], [[0, 2], [0, 1], [0, 0]])

    def test_a_number_that_was_dropped(self):
        told = run(*TWENTY[:3], (DROP, 2), (DROP, 2), (VALUE, 2, 5), (DROP, 3))
        self.assertEqual(told[3:], [[0, 2], [-4], [-4], [0, 1]])

    def test_a_number_that_was_never_given(self):
        for number in (0, -1, 4, 21, 10 ** 18, -10 ** 18):
            with self.subTest(number=number):
                told = run(*TWENTY[:3], (DROP, number), (VALUE, number, 5), (NEAR, 0, 0, 0))
                self.assertEqual(told[3:], [[-4], [-4], [0, 3, 1, 2, 3]])

    def test_the_numbers_of_the_others_stay(self):
        self.assertEqual(last(*TWENTY[:4], (DROP, 2), (NEAR, 0, 0, 0)), [0, 3, 1, 3, 4])


class Value(unittest.TestCase):
    def test_it_answers_the_value_before(self):
        told = run((SAMPLE, 0, 0, 0, 11), (SAMPLE, 1, 0, 0, 12), (VALUE, 1, 21), (VALUE, 1, 31), (VALUE, 2, 22),
                   (VALUE, 1, 0), (VALUE, 1, 1000000), (VALUE, 1, 3))
        self.assertEqual(told[2:], [[0, 11], [0, 21], [0, 12], [0, 31], [0, 0], [0, 1000000]])

    def test_the_grade_is_told_from_the_new_value(self):
        told = run((SAMPLE, 0, 0, 0, 11), (VALUE, 1, 21), (POINT, 0, 0, 0))
        self.assertEqual(told[-1], [0, 21, 1, 0, 1, 0, 1, 1, 1, 1, 1])

    def test_neither_the_place_nor_the_order_changes(self):
        told = run(*TWENTY[:3], (VALUE, 1, 5), (SAMPLE, 0, 0, 0, 1), (NEAR, 1, 0, 0))
        self.assertEqual(told[4:], [[-2], [0, 3, 2, 1, 3]])


if __name__ == "__main__":
    unittest.main()
