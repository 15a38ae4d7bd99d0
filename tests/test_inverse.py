"""Promise 14: inverse."""

import unittest

from words import (DROP, INVERSE, MODEL, SAMPLE, SEARCH, VALUE, by_inverses, last, pair, run, taken)

TWO = [(SAMPLE, 1, 0, 0, 10), (SAMPLE, -3, 0, 0, 20)]


class AtASample(unittest.TestCase):
    def test_its_value_with_each_power(self):
        calls = [(SAMPLE, 3, 4, 5, 10), (SAMPLE, 3, 4, 6, 20), (SAMPLE, 2, 4, 5, 30)]
        for power in (1, 2, 3):
            with self.subTest(power=power):
                self.assertEqual(last(*calls, (INVERSE, 3, 4, 6, power)), [0, 20, 1])

    def test_a_value_of_0(self):
        self.assertEqual(last((SAMPLE, 3, 4, 5, 10), (SAMPLE, 3, 4, 6, 0), (INVERSE, 3, 4, 6, 1)), [0, 0, 1])

    def test_beside_it_all_of_them_count(self):
        calls = [(SAMPLE, 3, 4, 5, 10), (SAMPLE, 3, 4, 7, 20)]
        self.assertEqual(last(*calls, (INVERSE, 3, 4, 6, 1)), [0, 15, 1])

    def test_the_one_at_the_place_is_taken_even_if_most_is_1(self):
        calls = [(SEARCH, 9, 9, 9, 1, 1, 1), (SAMPLE, 0, 0, 0, 10), (SAMPLE, 1, 0, 0, 20)]
        self.assertEqual(last(*calls, (INVERSE, 1, 0, 0, 2)), [0, 20, 1])

    def test_too_few_although_there_is_one_at_the_place(self):
        calls = [(SEARCH, 9, 9, 9, 8, 8, 2), (SAMPLE, 0, 0, 0, 10)]
        self.assertEqual(last(*calls, (INVERSE, 0, 0, 0, 1)), [-5])
        self.assertEqual(last(*calls, (SAMPLE, 1, 0, 0, 20), (INVERSE, 0, 0, 0, 1)), [0, 10, 1])


class Weighted(unittest.TestCase):
    def test_each_power(self):
        # How far they are is as 1 to 9: the squares are what is raised to the power.
        self.assertEqual(last(*TWO, (INVERSE, 0, 0, 0, 1)), [0, 11, 1])
        self.assertEqual(last(*TWO, (INVERSE, 0, 0, 0, 2)), [0, 415, 41])
        self.assertEqual(last(*TWO, (INVERSE, 0, 0, 0, 3)), [0, 731, 73])

    def test_one_sample(self):
        for power in (1, 2, 3):
            self.assertEqual(last((SAMPLE, 7, 8, 9, 4), (INVERSE, 0, 0, 0, power)), [0, 4, 1])

    def test_each_difference_is_divided_by_its_range(self):
        # 1/100 and 16/400: as 1 to 4.
        calls = [(MODEL, 1, 1, 10, 20, 30), (SAMPLE, 1, 0, 0, 10), (SAMPLE, 0, 4, 0, 20)]
        self.assertEqual(last(*calls, (INVERSE, 0, 0, 0, 1)), [0, 12, 1])
        # 4/400 and 36/900: as 1 to 4.
        calls = [(MODEL, 1, 1, 10, 20, 30), (SAMPLE, 0, 2, 0, 10), (SAMPLE, 0, 0, -6, 20)]
        self.assertEqual(last(*calls, (INVERSE, 0, 0, 0, 1)), [0, 12, 1])

    def test_only_those_that_are_taken(self):
        calls = TWO + [(SAMPLE, 5, 0, 0, 999)]
        self.assertEqual(last((SEARCH, 4, 4, 4, 8, 8, 1), *calls, (INVERSE, 0, 0, 0, 1)), [0, 11, 1])
        self.assertEqual(last((SEARCH, 9, 9, 9, 2, 8, 1), *calls, (INVERSE, 0, 0, 0, 1)), [0, 11, 1])
        self.assertEqual(last((SEARCH, 9, 9, 9, 8, 1, 1), *calls, (INVERSE, 0, 0, 0, 1)), [0, 11, 1])
        self.assertNotEqual(last((SEARCH, 9, 9, 9, 8, 8, 1), *calls, (INVERSE, 0, 0, 0, 1)), [0, 11, 1])

    def test_the_nugget_and_the_sill_make_no_difference(self):
        self.assertEqual(last((MODEL, 900, 7, 100, 100, 100), *TWO, (INVERSE, 0, 0, 0, 2)), [0, 415, 41])

    def test_eight_with_the_greatest_numbers(self):
        model = (1, 1, 997, 991, 983)
        search = (1000, 1000, 1000, 8, 8, 8)
        samples = {n: ((83 * n - 999, 999 - 71 * n * n % 997, 61 * n), 1000000 - n) for n in range(1, 13)}
        place = (-13, -1, 1000)
        calls = [(MODEL, *model), (SEARCH, *search)] + [(SAMPLE, *at, value) for at, value in samples.values()]
        chosen = taken(model, search, samples, place)
        self.assertEqual(len(chosen), 8)
        for power in (1, 2, 3):
            with self.subTest(power=power):
                wanted = [0, *pair(by_inverses(model, samples, chosen, place, power))]
                self.assertEqual(last(*calls, (INVERSE, *place, power)), wanted)

    def test_the_values_kept_now_and_no_dropped_sample(self):
        calls = TWO + [(SAMPLE, 1, 1, 1, 7), (DROP, 3), (VALUE, 1, 30)]
        self.assertEqual(last(*calls, (INVERSE, 0, 0, 0, 1)), [0, 29, 1])


class TooFew(unittest.TestCase):
    def test_none(self):
        self.assertEqual(last((INVERSE, 0, 0, 0, 1)), [-5])

    def test_none_within_reach_and_one(self):
        told = run((SEARCH, 5, 5, 5, 8, 8, 1), (SAMPLE, 6, 0, 0, 3), (INVERSE, 0, 0, 0, 1), (INVERSE, 1, 0, 0, 1))
        self.assertEqual(told[2:], [[-5], [0, 3, 1]])

    def test_least(self):
        for least, wanted in [(1, [0, 11, 1]), (2, [0, 11, 1]), (3, [-5]), (8, [-5])]:
            with self.subTest(least=least):
                self.assertEqual(last((SEARCH, 9, 9, 9, 8, 8, least), *TWO, (INVERSE, 0, 0, 0, 1)), wanted)


if __name__ == "__main__":
    unittest.main()
