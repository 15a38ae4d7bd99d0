"""The interface: one flat list in, one flat list out, nothing changed and nothing kept."""

import unittest

import sampledgrades.ground
from sampledgrades.ground import answers
from words import COV, NEAR, POINT, SAMPLE, run

LINE = [
    0, 2, 3, 50, 60, 70,
    1, 100, 100, 100, 4, 2, 1,
    2, 0, 0, 0, 5,
    2, 10, 0, 0, 7,
    4, 1, 6,
    7, 5, 0, 0,
    8, 0, 0, 0, 1, 2, 3, 2, 2, 1,
    3, 2,
    3, 2,
    6, 0, 0, 0,
]


class Interface(unittest.TestCase):
    def test_one_flat_list_with_how_many_before_each_answer(self):
        self.assertEqual(
            answers([2, 0, 0, 0, 5, 2, 0, 0, 0, 5, 6, 0, 0, 0, 5, 0, 0, 0, 50, 0, 0, 3, 1, 0, 1, 1, 1, 1, 1]),
            [2, 0, 1, 1, -2, 3, 0, 1, 1, 3, 0, 1, 2, 2, 0, 0, 1, 0],
        )

    def test_it_is_there_under_its_full_name(self):
        self.assertEqual(sampledgrades.ground.answers([6, 0, 0, 0]), [2, 0, 0])

    def test_a_list_of_pythons_own_whole_numbers(self):
        told = answers(LINE)
        self.assertIs(type(told), list)
        self.assertTrue(all(type(number) is int for number in told))

    def test_what_is_handed_in_stays_as_it_was(self):
        handed = list(LINE)
        answers(handed)
        self.assertEqual(handed, LINE)

    def test_what_is_handed_in_is_not_changed_for_a_while_either(self):
        class Watched(list):
            def refuse(self, *rest):
                raise AssertionError("changed")
            append = extend = insert = pop = remove = clear = sort = reverse = refuse
            __setitem__ = __delitem__ = __iadd__ = __imul__ = refuse
        self.assertEqual(answers(Watched(LINE)), answers(LINE))

    def test_a_second_time_is_as_the_first(self):
        handed = list(LINE)
        first = answers(handed)
        kept = list(first)
        second = answers(handed)
        self.assertEqual(second, kept)
        self.assertEqual(first, kept)
        self.assertIsNot(first, second)

    def test_nothing_is_kept_from_one_time_to_the_next(self):
        answers(LINE)
        self.assertEqual(
            run((NEAR, 0, 0, 0), (COV, 0, 0, 0, 1, 0, 0), (SAMPLE, 0, 0, 0, 1)),
            [[0, 0], [0, 99, 100], [0, 1]],
        )

    def test_a_refused_call_is_read_to_its_end(self):
        self.assertEqual(
            run((0, 0, 1, 1, 1, 1), (1, 0, 1, 1, 1, 1, 1), (2, 0, 0, 0, -1), (3, 1), (4, 1, -1),
                (5, 0, 0, 0, 0, 0, 1001), (6, 0, 0, 1001), (7, 0, 0, 1001), (8, 0, 0, 0, 1, 1, 1, 1, 1, 5),
                (NEAR, 0, 0, 0)),
            [[-1], [-1], [-1], [-4], [-1], [-1], [-1], [-1], [-1], [0, 0]],
        )

    def test_any_call_may_come_first(self):
        firsts = [
            ((0, 1, 1, 1, 1, 1), [0]), ((1, 1, 1, 1, 1, 1, 1), [0]), ((2, 0, 0, 0, 0), [0, 1]), ((3, 1), [-4]),
            ((4, 1, 1), [-4]), ((5, 0, 0, 0, 0, 0, 0), [0, 2, 1]), ((6, 0, 0, 0), [0, 0]), ((7, 0, 0, 0), [-5]),
            ((8, 0, 0, 0, 1, 1, 1, 1, 1, 1), [-5]),
        ]
        for call, wanted in firsts:
            with self.subTest(call=call):
                self.assertEqual(run(call), [wanted])

    def test_a_hundred_calls(self):
        calls = [(SAMPLE, x, 0, 0, x) for x in range(20)] + [(NEAR, 0, 0, 0)] * 68 + [(POINT, 30, 0, 0)] * 12
        told = run(*calls)
        self.assertEqual(len(told), 100)
        self.assertEqual(told[20], [0, 8, 1, 2, 3, 4, 5, 6, 7, 8])
        self.assertEqual(told[88], told[99])


if __name__ == "__main__":
    unittest.main()
