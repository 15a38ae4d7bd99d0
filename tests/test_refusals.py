"""The ranges of the calls' numbers, and the refusals in their order."""

import unittest

from words import (BLOCK, CELLS, CHECK, COV, CROSS, DROP, INVERSE, LINE, MEAN, MODEL, NEAR, NEAREST, POINT, SAMPLE,
                   SEARCH, SIMPLE, TOLD, VALUE, check_call, last, run)

GREATEST = 10 ** 18
COORDINATE = (-1000, 1000)
VALUES = (0, 1000000)

# A call that is answered, and its numbers' ranges; None where a number has no range of its own.
RANGES = [
    ((MODEL, 2, 3, 4, 5, 6), [(1, 1000)] * 5),
    ((SEARCH, 20, 30, 40, 3, 2, 1), [(1, 1000)] * 3 + [(1, 8)] * 3),
    ((SAMPLE, 7, 8, 9, 10), [COORDINATE] * 3 + [VALUES]),
    ((DROP, 1), [None]),
    ((VALUE, 1, 10), [None, VALUES]),
    ((COV, 1, 2, 3, 4, 5, 6), [COORDINATE] * 6),
    ((NEAR, 1, 2, 3), [COORDINATE] * 3),
    ((POINT, 1, 2, 3), [COORDINATE] * 3),
    ((BLOCK, 1, 2, 3, 4, 5, 6, 2, 2, 2), [COORDINATE] * 3 + [(1, 100)] * 3 + [(1, 4)] * 3),
    ((SIMPLE, 1, 2, 3, 4), [COORDINATE] * 3 + [VALUES]),
    ((LINE, 1, 2, 3, 4, 5, 6, 7), [COORDINATE] * 3 + [(-100, 100)] * 3 + [(1, 10)]),
    ((CHECK, 1, 2, 3, 1, 1, 2, 1, 1), [COORDINATE] * 3 + [None] * 3 + [(-1000000, 1000000), (1, 1000000)]),
    ((NEAREST, 1, 2, 3), [COORDINATE] * 3),
    ((INVERSE, 1, 2, 3, 2), [COORDINATE] * 3 + [(1, 3)]),
    ((CELLS, 1, 2, 3, 4, 5, 6), [COORDINATE] * 3 + [(1, 1000)] * 3),
]

# Each thing that is kept shows itself in what these answer.
BEFORE = [
    (MODEL, 2, 3, 40, 50, 60),
    (SEARCH, 20, 30, 40, 3, 2, 2),
    (SAMPLE, 0, 0, 0, 11),
    (SAMPLE, 5, 6, 7, 12),
    (SAMPLE, 8, 2, 3, 13),
    (SAMPLE, -4, 2, 3, 14),
    (DROP, 2),
    (SAMPLE, 19, 1, 1, 15),
]
BEHIND = [
    (TOLD,),
    (COV, 0, 0, 0, 1, 2, 3),
    (COV, 0, 0, 0, 0, 0, 0),
    (NEAR, 1, 2, 3),
    (NEAR, -12, 1, 1),
    (NEAR, 0, 31, 0),
    (NEAR, 0, 30, 0),
    (NEAR, 0, 0, 41),
    (NEAR, 0, 0, 40),
    (POINT, 1, 2, 3),
    (POINT, 39, 1, 1),
    (BLOCK, 1, 2, 3, 4, 5, 6, 2, 2, 2),
    (SAMPLE, 9, 9, 9, 1),
    (VALUE, 1, 1),
    (VALUE, 2, 1),
    (VALUE, 3, 1),
    (VALUE, 4, 1),
    (VALUE, 5, 1),
    (VALUE, 6, 1),
    (DROP, 1),
]


def with_number(call, position, number):
    changed = list(call)
    changed[1 + position] = number
    return tuple(changed)


def numbers_at_the_edges():
    """Each call with one of its numbers at an edge of its range, and whether it is beyond it."""
    for call, ranges in RANGES:
        for position, bounds in enumerate(ranges):
            if bounds is not None:
                for number in bounds:
                    yield with_number(call, position, number), False
                for number in (bounds[0] - 1, bounds[1] + 1, -GREATEST, GREATEST):
                    yield with_number(call, position, number), True


class OutOfRange(unittest.TestCase):
    def test_first_and_last_are_answered_and_what_is_beyond_is_refused(self):
        for call, beyond in numbers_at_the_edges():
            with self.subTest(call=call):
                told = last((SAMPLE, 0, 0, 0, 1), call)
                if beyond:
                    self.assertEqual(told, [-1])
                elif call[0] == POINT or call[0] == BLOCK:
                    self.assertIn(told[0], (0, -5))
                else:
                    self.assertEqual(told[0], 0)

    def test_all_at_their_first_and_all_at_their_last(self):
        # Sample 2 stands by each of the ground's ends, so that point and block are answered there.
        for end in (0, 1):
            for call, ranges in RANGES:
                edge = tuple(own if bounds is None else bounds[end] for own, bounds in zip(call[1:], ranges))
                with self.subTest(call=call[0], edge=edge):
                    place = (999, 999, 999) if end else (-999, -999, -999)
                    told = last((SAMPLE, 0, 0, 0, 1), (SAMPLE, *place, 1), (call[0], *edge))
                    self.assertEqual(told[0], 0)

    def test_a_samples_number_is_in_range_wherever_it_is(self):
        for number in (0, -1, 2, GREATEST, -GREATEST):
            with self.subTest(number=number):
                self.assertEqual(last((SAMPLE, 0, 0, 0, 1), (DROP, number)), [-4])
                self.assertEqual(last((SAMPLE, 0, 0, 0, 1), (VALUE, number, 1)), [-4])
                self.assertEqual(last((SAMPLE, 0, 0, 0, 1), check_call((0, 0, 0), [number], [(1, 1)])), [-4])


class Order(unittest.TestCase):
    def test_out_of_range_before_a_sample_at_the_place(self):
        self.assertEqual(last((SAMPLE, 0, 0, 0, 1), (SAMPLE, 0, 0, 0, 1000001)), [-1])
        self.assertEqual(last((SAMPLE, 0, 0, 0, 1), (SAMPLE, 0, 0, 0, -1)), [-1])

    def test_out_of_range_before_no_room(self):
        twenty = [(SAMPLE, x, 0, 0, 1) for x in range(20)]
        self.assertEqual(last(*twenty, (SAMPLE, 20, 0, 0, -1)), [-1])
        self.assertEqual(last(*twenty, (SAMPLE, 20, 0, 1001, 1)), [-1])

    def test_a_sample_at_the_place_before_no_room(self):
        twenty = [(SAMPLE, x, 0, 0, 1) for x in range(20)]
        self.assertEqual(last(*twenty, (SAMPLE, 3, 0, 0, 1)), [-2])
        self.assertEqual(last(*twenty, (SAMPLE, 3, 0, 1, 1)), [-3])

    def test_out_of_range_before_no_such_sample(self):
        self.assertEqual(last((VALUE, 1, -1)), [-1])
        self.assertEqual(last((VALUE, 1, 1000001)), [-1])
        self.assertEqual(last((VALUE, 1, 1)), [-4])

    def test_out_of_range_before_too_few(self):
        self.assertEqual(last((POINT, 0, 0, 1001)), [-1])
        self.assertEqual(last((POINT, 0, 0, 1000)), [-5])
        self.assertEqual(last((BLOCK, 0, 0, 0, 1, 1, 1, 1, 1, 5)), [-1])
        self.assertEqual(last((BLOCK, 0, 0, 0, 1, 1, 1, 1, 1, 4)), [-5])
        self.assertEqual(last((SIMPLE, 0, 0, 0, 1000001)), [-1])
        self.assertEqual(last((SIMPLE, 0, 0, 0, 1000000)), [-5])
        self.assertEqual(last((NEAREST, 0, 1001, 0)), [-1])
        self.assertEqual(last((NEAREST, 0, 1000, 0)), [-5])
        self.assertEqual(last((INVERSE, 0, 0, 0, 4)), [-1])
        self.assertEqual(last((INVERSE, 0, 0, 0, 0)), [-1])
        self.assertEqual(last((INVERSE, 0, 0, 0, 3)), [-5])
        self.assertEqual(last((CELLS, 0, 0, 0, 1, 1, 1001)), [-1])
        self.assertEqual(last((CELLS, 0, 0, 0, 1, 1, 0)), [-1])
        self.assertEqual(last((CELLS, 0, 0, 0, 1, 1, 1000)), [-5])

    def test_line_and_cross_and_told_are_never_refused_for_too_few(self):
        self.assertEqual(last((LINE, 0, 0, 0, 0, 0, 0, 1)), [0, 0, 0, 1])
        self.assertEqual(last((LINE, 0, 0, 0, 0, 0, 0, 0)), [-1])
        self.assertEqual(last((CROSS,)), [0, 0, 0, 1, 0, 1])
        self.assertEqual(last((TOLD,))[0], 0)

    def test_out_of_range_before_no_such_sample_in_check(self):
        self.assertEqual(last(check_call((0, 0, 0), [1], [(1, 1)])), [-4])
        self.assertEqual(last(check_call((0, 0, 0), [1], [(1, 0)])), [-1])
        self.assertEqual(last(check_call((0, 0, 0), [1], [1])), [-1])
        self.assertEqual(last(check_call((-1001, 0, 0), [1], [(1, 1)])), [-1])


class AllIsAsItWas(unittest.TestCase):
    def check_refused(self, before, call, refusal):
        untouched = run(*before, *BEHIND)
        told = run(*before, call, *BEHIND)
        self.assertEqual(told[len(before)], [refusal])
        self.assertEqual(told[:len(before)] + told[len(before) + 1:], untouched)

    def test_after_out_of_range(self):
        for call, beyond in numbers_at_the_edges():
            if beyond:
                with self.subTest(call=call):
                    self.check_refused(BEFORE, call, -1)

    def test_after_a_sample_at_the_place(self):
        self.check_refused(BEFORE, (SAMPLE, 0, 0, 0, 77), -2)

    def test_after_no_room(self):
        filled = BEFORE + [(SAMPLE, -100, y, 0, 1) for y in range(16)]
        self.assertEqual(run(*filled)[-1], [0, 21])
        self.check_refused(filled, (SAMPLE, 1, 2, 3, 77), -3)

    def test_after_no_such_sample(self):
        for number in (2, 6, 0, -1, GREATEST):
            with self.subTest(number=number):
                self.check_refused(BEFORE, (DROP, number), -4)
                self.check_refused(BEFORE, (VALUE, number, 77), -4)
                self.check_refused(BEFORE, check_call((0, 0, 0), [1, number], [(1, 2), (1, 2)]), -4)
        self.check_refused(BEFORE, check_call((0, 0, 0), [1, 3, 1], [(1, 2), (1, 2), (1, 2)]), -4)

    def test_after_a_row_that_is_not_as_told(self):
        for numbers, weights in [([], []), ([1], [1]), ([1], [1, 1, 1]), ([1] * 9, [1] * 18), ([1] * 40, [1] * 40)]:
            with self.subTest(numbers=numbers, weights=weights):
                self.check_refused(BEFORE, check_call((0, 0, 0), numbers, weights), -1)

    def test_after_too_few(self):
        self.check_refused(BEFORE, (POINT, 1000, 0, 0), -5)
        self.check_refused(BEFORE, (BLOCK, 1000, 0, 0, 1, 1, 1, 4, 4, 4), -5)
        self.check_refused(BEFORE, (SIMPLE, 1000, 0, 0, 5), -5)
        self.check_refused(BEFORE, (INVERSE, 1000, 0, 0, 2), -5)

    def test_after_none(self):
        emptied = BEFORE + [(DROP, number) for number in (1, 3, 4, 5)]
        for call in [(NEAREST, 0, 0, 0), (CELLS, 0, 0, 0, 1, 1, 1), (MEAN,)]:
            with self.subTest(call=call):
                self.check_refused(emptied, call, -5)

    def test_asking_changes_nothing_either(self):
        untouched = run(*BEFORE, *BEHIND)
        for call in [(COV, 1, 2, 3, 4, 5, 6), (NEAR, 1, 2, 3), (POINT, 0, 0, 0), (BLOCK, 0, 0, 0, 1, 1, 1, 4, 4, 4),
                     (SIMPLE, 0, 0, 0, 7), (LINE, 0, 0, 0, 1, 2, 3, 10),
                     check_call((0, 0, 0), [3, 1], [(1, 2), (1, 3)]), (CROSS,), (NEAREST, 1, 2, 3),
                     (INVERSE, 1, 2, 3, 3), (CELLS, 1, 2, 3, 4, 5, 6), (MEAN,), (TOLD,)]:
            told = run(*BEFORE, call, *BEHIND)
            self.assertEqual(told[len(BEFORE)][0], 0)
            self.assertEqual(told[:len(BEFORE)] + told[len(BEFORE) + 1:], untouched)


if __name__ == "__main__":
    unittest.main()
