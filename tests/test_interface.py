"""The interface: one flat list in, one flat list out, nothing changed and nothing kept."""

import unittest

import sampledgrades.ground
from sampledgrades.ground import answers
from words import COV, NEAR, POINT, SAMPLE, TOLD, Reference, check_call, run

LINE = [
    0, 2, 3, 50, 60, 70,
    1, 100, 100, 100, 4, 2, 1,
    2, 0, 0, 0, 5,
    2, 10, 0, 0, 7,
    4, 1, 6,
    7, 5, 0, 0,
    8, 0, 0, 0, 1, 2, 3, 2, 2, 1,
    9, 5, 0, 0, 6,
    10, 0, 0, 0, 1, -1, 0, 3,
    11, 5, 0, 0, 2, 1, 2, 4, 1, 2, 1, 2,
    11, 5, 0, 0, 0, 3, 1, 2, 3,
    12,
    13, 1, 2, 3,
    14, 1, 2, 3, 2,
    15, 0, 0, 0, 5, 5, 5,
    16,
    17,
    5, 0, 0, 0, 1, 2, 3,
    3, 2,
    3, 2,
    6, 0, 0, 0,
]

# Each of the 18 calls, as it is told when it comes first, and what is answered then.
FIRSTS = [
    ((0, 1, 1, 1, 1, 1), [0]),
    ((1, 1, 1, 1, 1, 1, 1), [0]),
    ((2, 0, 0, 0, 0), [0, 1]),
    ((3, 1), [-4]),
    ((4, 1, 1), [-4]),
    ((5, 0, 0, 0, 0, 0, 0), [0, 2, 1]),
    ((6, 0, 0, 0), [0, 0]),
    ((7, 0, 0, 0), [-5]),
    ((8, 0, 0, 0, 1, 1, 1, 1, 1, 1), [-5]),
    ((9, 0, 0, 0, 1), [-5]),
    ((10, 0, 0, 0, 1, 1, 1, 2), [0, 0, 0, 1, 0, 0, 1]),
    ((11, 0, 0, 0, 1, 1, 2, 1, 1), [-4]),
    ((12,), [0, 0, 0, 1, 0, 1]),
    ((13, 0, 0, 0), [-5]),
    ((14, 0, 0, 0, 1), [-5]),
    ((15, 0, 0, 0, 1, 1, 1), [-5]),
    ((16,), [-5]),
    ((17,), [0, 1, 1, 100, 100, 100, 1000, 1000, 1000, 8, 8, 1, 0]),
]

# All 18 calls once more, with samples there.
ALL = [
    (2, 1, 2, 3, 10), (2, 4, 2, 3, 20), (2, 1, 9, 3, 40), (0, 2, 3, 50, 60, 70), (1, 100, 100, 100, 4, 3, 1),
    (4, 1, 11), (5, 0, 0, 0, 1, 2, 3), (6, 0, 0, 0), (7, 2, 2, 2), (8, 0, 0, 0, 1, 2, 3, 2, 2, 1), (9, 5, 0, 0, 6),
    (10, 0, 0, 0, 1, -1, 0, 3), (11, 5, 0, 0, 2, 3, 2, 4, 1, 3, 2, 3), (12,), (13, 1, 2, 3), (14, 1, 2, 4, 2),
    (15, 0, 0, 0, 5, 5, 5), (16,), (17,), (3, 2), (17,), (12,), (16,),
]


class Interface(unittest.TestCase):
    def test_one_flat_list_with_how_many_before_each_answer(self):
        self.assertEqual(
            answers([2, 0, 0, 0, 5, 2, 0, 0, 0, 5, 6, 0, 0, 0, 5, 0, 0, 0, 50, 0, 0, 3, 1, 0, 1, 1, 1, 1, 1]),
            [2, 0, 1, 1, -2, 3, 0, 1, 1, 3, 0, 1, 2, 2, 0, 0, 1, 0],
        )

    def test_it_is_there_under_its_full_name(self):
        self.assertEqual(sampledgrades.ground.answers([6, 0, 0, 0]), [2, 0, 0])

    def test_a_list_of_pythons_own_whole_numbers(self):
        told = answers(LINE)
        self.assertIs(type(told), list)
        self.assertTrue(all(type(number) is int for number in told))

    def test_what_is_handed_in_stays_as_it_was(self):
        handed = list(LINE)
        answers(handed)
        self.assertEqual(handed, LINE)

    def test_what_is_handed_in_is_not_changed_for_a_while_either(self):
        class Watched(list):
            def refuse(self, *rest):
                raise AssertionError("changed")
            append = extend = insert = pop = remove = clear = sort = reverse = refuse
            __setitem__ = __delitem__ = __iadd__ = __imul__ = refuse
        self.assertEqual(answers(Watched(LINE)), answers(LINE))

    def test_a_second_time_is_as_the_first(self):
        handed = list(LINE)
        first = answers(handed)
        kept = list(first)
        second = answers(handed)
        self.assertEqual(second, kept)
        self.assertEqual(first, kept)
        self.assertIsNot(first, second)

    def test_nothing_is_kept_from_one_time_to_the_next(self):
        answers(LINE)
        self.assertEqual(
            run((NEAR, 0, 0, 0), (COV, 0, 0, 0, 1, 0, 0), (SAMPLE, 0, 0, 0, 1)),
            [[0, 0], [0, 99, 100], [0, 1]],
        )

    def test_a_refused_call_is_read_to_its_end(self):
        self.assertEqual(
            run((0, 0, 1, 1, 1, 1), (1, 0, 1, 1, 1, 1, 1), (2, 0, 0, 0, -1), (3, 1), (4, 1, -1),
                (5, 0, 0, 0, 0, 0, 1001), (6, 0, 0, 1001), (7, 0, 0, 1001), (8, 0, 0, 0, 1, 1, 1, 1, 1, 5),
                (9, 0, 0, 0, -1), (10, 0, 0, 0, 0, 0, 0, 11), (11, 0, 0, 1001, 1, 1, 2, 1, 1), (13, 0, 0, 1001),
                (14, 0, 0, 0, 4), (15, 0, 0, 0, 1, 1, 0), (16,), (NEAR, 0, 0, 0)),
            [[-1], [-1], [-1], [-4], [-1], [-1], [-1], [-1], [-1], [-1], [-1], [-1], [-1], [-1], [-1], [-5], [0, 0]],
        )

    def test_rows_are_read_to_their_end_whatever_they_have(self):
        for samples in (0, 1, 2, 8, 9, 39, 40):
            for weights in (0, 1, 2, 3, 15, 16, 17, 18, 39, 40):
                with self.subTest(samples=samples, weights=weights):
                    told = run((11, 0, 0, 0, samples, *[7] * samples, weights, *[12] * weights), (TOLD,))
                    wanted = -4 if 1 <= samples <= 8 and weights == 2 * samples else -1
                    self.assertEqual(told, [[wanted], FIRSTS[17][1]])

    def test_rows_with_the_greatest_numbers(self):
        row = [10 ** 18, -10 ** 18] * 20
        self.assertEqual(run((11, 0, 0, 0, 40, *row, 40, *row), (TOLD,)), [[-1], FIRSTS[17][1]])
        self.assertEqual(run((11, 10 ** 18, 0, 0, 40, *row, 0), (TOLD,)), [[-1], FIRSTS[17][1]])

    def test_two_checks_one_behind_another(self):
        check = check_call((50, 0, 0), [1], [(1, 1)])
        told = run((2, 0, 0, 0, 9), check, check, check_call((50, 0, 0), [], []), check)
        self.assertEqual(told[1:], [[0, 1, 1, 3, 1, 9, 1], [0, 1, 1, 3, 1, 9, 1], [-1], [0, 1, 1, 3, 1, 9, 1]])

    def test_any_call_may_come_first(self):
        self.assertEqual([call[0] for call, wanted in FIRSTS], list(range(18)))
        for call, wanted in FIRSTS:
            with self.subTest(call=call):
                self.assertEqual(run(call), [wanted])
                self.assertEqual(answers(list(call)), [len(wanted)] + wanted)

    def test_any_call_may_come_first_and_all_the_others_behind_it(self):
        for first, wanted in FIRSTS:
            calls = [first] + ALL
            told = run(*calls)
            self.assertEqual(told[0], wanted)
            reference = Reference()
            for call, answer in zip(calls, told):
                with self.subTest(first=first, call=call):
                    reference.check(self, call, answer)

    def test_all_18_calls_in_one_list(self):
        self.assertEqual(sorted(set(call[0] for call in ALL)), list(range(18)))
        told = run(*ALL)
        self.assertEqual(len(told), len(ALL))
        self.assertTrue(all(answer[0] == 0 for answer in told))
        reference = Reference()
        for call, answer in zip(ALL, told):
            with self.subTest(call=call):
                reference.check(self, call, answer)

    def test_no_counts_but_those_that_the_words_tell(self):
        told = dict(zip([call[0] for call in ALL[:19]], run(*ALL)))
        lengths = [(5, 3), (6, 2 + 3), (7, 8 + 3 * 3), (9, 8 + 3 * 3), (10, 1 + 3 * 3), (11, 7), (12, 6 + 3 * 3),
                   (13, 3), (14, 3), (15, 4 + 3), (16, 8), (17, 13 + 5 * 3)]
        for kind, length in lengths:
            with self.subTest(kind=kind):
                self.assertEqual(len(told[kind]), length)

    def test_a_hundred_calls(self):
        calls = [(SAMPLE, x, 0, 0, x) for x in range(20)] + [(NEAR, 0, 0, 0)] * 68 + [(POINT, 30, 0, 0)] * 12
        told = run(*calls)
        self.assertEqual(len(told), 100)
        self.assertEqual(told[20], [0, 8, 1, 2, 3, 4, 5, 6, 7, 8])
        self.assertEqual(told[88], told[99])


if __name__ == "__main__":
    unittest.main()
