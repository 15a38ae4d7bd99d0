"""Promise 11: check."""

import unittest
from fractions import Fraction

from words import (BEGINNING_MODEL, CHECK, DROP, MODEL, POINT, SAMPLE, SEARCH, TOLD, VALUE, Told, best_weights,
                   check_call, judged, last, pair, run)

EIGHT = {n: ((10 * n, n * n, -7 * n), 100 + n) for n in range(1, 9)}
NINE = [(SAMPLE, 10 * n, n * n, -7 * n, 100 + n) for n in range(1, 10)]


class OneSample(unittest.TestCase):
    def check(self, weight, place=(50, 0, 0)):
        return last((SAMPLE, 0, 0, 0, 9), check_call(place, [1], [weight]))

    def test_all_of_it_is_always_the_told_grades(self):
        # 2 - 2 * 1/2 + 2 = 3, as point tells it.
        self.assertEqual(self.check((1, 1)), [0, 1, 1, 3, 1, 9, 1])
        self.assertEqual(self.check((1, 1), (0, 0, 0)), [0, 1, 1, 0, 1, 9, 1])
        self.assertEqual(self.check((1, 1), (100, 0, 0)), [0, 1, 1, 4, 1, 9, 1])

    def test_a_weight_need_not_be_in_lowest_terms(self):
        self.assertEqual(self.check((2, 2)), [0, 1, 1, 3, 1, 9, 1])
        self.assertEqual(self.check((1000000, 1000000)), [0, 1, 1, 3, 1, 9, 1])

    def test_what_does_not_add_up_to_1(self):
        # 2/4 - 2 * 1/2 * 1/2 + 2
        self.assertEqual(self.check((1, 2)), [0, 0, 0, 2, 1, 9, 2])
        self.assertEqual(self.check((0, 1)), [0, 0, 0, 2, 1, 0, 1])
        self.assertEqual(self.check((0, 1000000)), [0, 0, 0, 2, 1, 0, 1])
        self.assertEqual(self.check((-1, 1)), [0, 0, 0, 5, 1, -9, 1])

    def test_nearly_1_is_not_1(self):
        self.assertEqual(self.check((999999, 1000000))[1:3], [0, 0])
        self.assertEqual(self.check((1000000, 999999))[1:3], [0, 0])


class Judged(unittest.TestCase):
    def test_two_alike(self):
        calls = [(SAMPLE, 0, 0, 0, 5), (SAMPLE, 10, 0, 0, 7)]
        self.assertEqual(last(*calls, check_call((5, 0, 0), [1, 2], [(1, 2), (1, 2)])), [0, 1, 1, 31, 20, 6, 1])
        self.assertEqual(last(*calls, check_call((5, 0, 0), [2, 1], [(2, 4), (3, 6)])), [0, 1, 1, 31, 20, 6, 1])

    def test_add_up_to_1_but_are_not_the_told_grades(self):
        # 2 * (1/16 + 9/16) + 2 * 3/16 * 9/10 - 2 * 19/20 + 2
        calls = [(SAMPLE, 0, 0, 0, 5), (SAMPLE, 10, 0, 0, 7)]
        self.assertEqual(last(*calls, check_call((5, 0, 0), [1, 2], [(1, 4), (3, 4)])), [0, 1, 0, 27, 16, 13, 2])
        self.assertEqual(
            last(*calls, check_call((5, 0, 0), [1, 2], [(500001, 1000000), (499999, 1000000)]))[1:3], [1, 0])

    def test_some_multiplier_fits_but_they_do_not_add_up_to_1(self):
        calls = [(SAMPLE, 0, 0, 0, 5), (SAMPLE, 10, 0, 0, 7)]
        told = last(*calls, check_call((5, 0, 0), [1, 2], [(1, 3), (1, 3)]))
        self.assertEqual(told[1:3], [0, 0])
        self.assertEqual(told[5:], [4, 1])

    def test_the_weights_beside_a_known_mean_are_not_the_told_grades(self):
        calls = [(SAMPLE, 0, 0, 0, 5), (SAMPLE, 10, 0, 0, 7)]
        self.assertEqual(last(*calls, check_call((5, 0, 0), [1, 2], [(19, 58), (19, 58)])),
                         [0, 0, 0, 799, 580, 114, 29])

    def test_the_multiplier_must_fit_the_last_sample_too(self):
        model = (1, 1, 2, 2, 2)
        samples = {1: ((1, 0, 0), 3), 2: ((-1, 0, 0), 4), 3: ((0, 1, 0), 5)}
        calls = [(MODEL, *model)] + [(SAMPLE, *place, value) for place, value in samples.values()]
        self.assertEqual(last(*calls, check_call((0, 0, 0), [1, 2, 3], [(1, 4), (1, 4), (1, 2)]))[1:3], [1, 0])
        self.assertEqual(last(*calls, check_call((0, 0, 0), [3, 1, 2], [(1, 2), (1, 4), (1, 4)]))[1:3], [1, 0])
        best = [pair(w) for w in best_weights(model, samples, [1, 2, 3], (0, 0, 0))]
        self.assertEqual(last(*calls, check_call((0, 0, 0), [1, 2, 3], best))[1:3], [1, 1])

    def test_what_point_tells_is_judged_right(self):
        calls = [(MODEL, 2, 3, 4, 5, 6), (SAMPLE, 0, 0, 0, 5), (SAMPLE, 2, 1, 0, 7), (SAMPLE, -1, 2, 1, 11)]
        point = Told(last(*calls, (POINT, 1, 1, 1)))
        told = last(*calls, check_call((1, 1, 1), point.numbers, [pair(w) for w in point.weights]))
        self.assertEqual(told, [0, 1, 1, *pair(point.variance), *pair(point.estimate)])

    def test_weights_below_0(self):
        calls = [(SAMPLE, 0, 0, 0, 5), (SAMPLE, 10, 0, 0, 7)]
        samples = {1: ((0, 0, 0), 5), 2: ((10, 0, 0), 7)}
        weights = [Fraction(-1, 2), Fraction(3, 2)]
        told = last(*calls, check_call((20, 30, 40), [1, 2], [(-1, 2), (3, 2)]))
        self.assertEqual(told, [0] + judged(BEGINNING_MODEL, samples, (20, 30, 40), [1, 2], weights))
        self.assertEqual(told[-2:], [8, 1])

    def test_eight_samples_in_any_order(self):
        weights = {n: Fraction(n * n - 20, 7 * n + 999901) for n in EIGHT}
        for numbers in ([1, 2, 3, 4, 5, 6, 7, 8], [8, 3, 1, 6, 2, 7, 5, 4]):
            told = last(*NINE, check_call((35, 20, -20), numbers, [pair(weights[n]) for n in numbers]))
            wanted = judged(BEGINNING_MODEL, EIGHT, (35, 20, -20), numbers, [weights[n] for n in numbers])
            self.assertEqual(told, [0] + wanted)

    def test_eight_greatest_weights(self):
        weights = [(-1000000, 1)] * 4 + [(1000000, 999999)] * 4
        told = last(*NINE, check_call((-1000, 1000, 0), list(EIGHT), weights))
        wanted = judged(BEGINNING_MODEL, EIGHT, (-1000, 1000, 0), list(EIGHT), [Fraction(*pair) for pair in weights])
        self.assertEqual(told, [0] + wanted)

    def test_a_sample_at_the_place_shares_the_nugget(self):
        # 1000 + 1 for itself, 1000 + 1 with the sample and 1000 + 1 for the sample: all of it leaves nothing.
        calls = [(MODEL, 1000, 1, 9, 9, 9), (SAMPLE, 4, 5, 6, 7), (SAMPLE, 4, 5, 7, 8)]
        self.assertEqual(last(*calls, check_call((4, 5, 6), [1, 2], [(1, 1), (0, 1)])), [0, 1, 1, 0, 1, 7, 1])


class JustTheseSamples(unittest.TestCase):
    def test_neither_reach_nor_most_nor_least_matters(self):
        calls = [(SAMPLE, 0, 0, 0, 5), (SAMPLE, 10, 0, 0, 7), (SAMPLE, 5, 0, 0, 7)]
        asked = check_call((5, 0, 0), [1, 2], [(1, 2), (1, 2)])
        self.assertEqual(last(*calls, asked), [0, 1, 1, 31, 20, 6, 1])
        self.assertEqual(last(*calls, (SEARCH, 1, 1, 1, 1, 1, 8), asked), [0, 1, 1, 31, 20, 6, 1])

    def test_the_value_is_the_one_that_is_kept_now(self):
        calls = [(SAMPLE, 0, 0, 0, 5), (VALUE, 1, 8)]
        self.assertEqual(last(*calls, check_call((50, 0, 0), [1], [(1, 1)])), [0, 1, 1, 3, 1, 8, 1])


class Rows(unittest.TestCase):
    def ask(self, numbers, weights):
        """A call behind it shows that the rows were read to their end."""
        told = run(*NINE, check_call((1, 2, 3), numbers, weights), (DROP, 9))
        self.assertEqual(told[10], [0, 8])
        return told[9]

    def test_one_and_eight(self):
        self.assertEqual(self.ask([1], [(1, 1)])[:3], [0, 1, 1])
        self.assertEqual(self.ask([1, 2, 3, 4, 5, 6, 7, 8], [(1, 8)] * 8)[:3], [0, 1, 0])

    def test_none_nine_and_forty(self):
        for count in (0, 9, 10, 20, 40):
            with self.subTest(count=count):
                self.assertEqual(self.ask(list(range(1, count + 1)), [(1, 9)] * min(count, 20)), [-1])

    def test_the_other_row_alone_is_empty_or_long(self):
        self.assertEqual(self.ask([], [(1, 1)]), [-1])
        self.assertEqual(self.ask([1], []), [-1])
        self.assertEqual(self.ask([1], [(1, 1)] * 20), [-1])
        self.assertEqual(self.ask([1] * 40, [(1, 1)]), [-1])

    def test_weights_one_number_too_few_or_too_many(self):
        for count in (1, 2, 7, 8):
            numbers = list(range(1, count + 1))
            weights = [1, count] * count
            with self.subTest(count=count):
                self.assertEqual(self.ask(numbers, weights)[0], 0)
                for wrong in (weights[:-1], weights + [1], weights[:-2], weights + [1, 1], weights[:count]):
                    self.assertEqual(self.ask(numbers, wrong), [-1])

    def test_the_weights_ranges(self):
        for count in (1, 3, 8):
            for position in range(count):
                for above in (-1000000, 1000000):
                    for below in (1, 1000000):
                        weights = [(1, 1)] * count
                        weights[position] = (above, below)
                        with self.subTest(count=count, weights=weights):
                            self.assertEqual(self.ask(list(range(1, count + 1)), weights)[0], 0)
                for wrong in [(-1000001, 1), (1000001, 1), (1, 0), (1, -1), (1, 1000001), (10 ** 18, 1), (-10 ** 18, 1),
                              (1, 10 ** 18), (1, -10 ** 18), (0, 0), (1000001, 1000001)]:
                    weights = [(1, 1)] * count
                    weights[position] = wrong
                    with self.subTest(count=count, weights=weights):
                        self.assertEqual(self.ask(list(range(1, count + 1)), weights), [-1])


class NoSuchSample(unittest.TestCase):
    def test_a_number_that_is_no_samples(self):
        calls = [(SAMPLE, 0, 0, 0, 5), (SAMPLE, 10, 0, 0, 7), (SAMPLE, 20, 0, 0, 7), (DROP, 2)]
        for number in (2, 4, 0, -1, 10 ** 18, -10 ** 18):
            with self.subTest(number=number):
                self.assertEqual(last(*calls, check_call((0, 0, 0), [number], [(1, 1)])), [-4])
                self.assertEqual(last(*calls, check_call((0, 0, 0), [1, number], [(1, 1)] * 2)), [-4])
                self.assertEqual(last(*calls, check_call((0, 0, 0), [number, 3], [(1, 1)] * 2)), [-4])
        self.assertEqual(last(*calls, check_call((0, 0, 0), [1, 3], [(1, 1)] * 2))[0], 0)

    def test_no_sample_at_all(self):
        self.assertEqual(last(check_call((0, 0, 0), [1], [(1, 1)])), [-4])

    def test_a_number_that_comes_twice(self):
        for numbers in ([1, 1], [1, 2, 1], [1, 2, 2], [1, 2, 3, 4, 5, 6, 7, 1], [3] * 8):
            with self.subTest(numbers=numbers):
                self.assertEqual(last(*NINE, check_call((0, 0, 0), numbers, [(1, 1)] * len(numbers))), [-4])

    def test_a_number_that_is_no_samples_twice(self):
        self.assertEqual(last(*NINE, check_call((0, 0, 0), [77, 77], [(1, 1)] * 2)), [-4])

    def test_what_is_not_as_told_is_looked_at_first(self):
        self.assertEqual(last(check_call((0, 0, 0), [1], [(1, 0)])), [-1])
        self.assertEqual(last(check_call((0, 0, 0), [1], [(1000001, 1)])), [-1])
        self.assertEqual(last(check_call((0, 0, 1001), [1], [(1, 1)])), [-1])
        self.assertEqual(last(check_call((0, 0, 0), [1], [1, 1, 1])), [-1])
        self.assertEqual(last(*NINE, check_call((0, 0, 0), [1] * 9, [(1, 1)] * 9)), [-1])
        self.assertEqual(last(*NINE, check_call((0, 0, 0), [1, 1], [(1, 1), (1, 0)])), [-1])

    def test_all_is_as_it_was(self):
        told = run(*NINE, (TOLD,), check_call((0, 0, 0), [77], [(1, 1)]), (TOLD,),
                   check_call((0, 0, 0), [], []), (TOLD,), check_call((0, 0, 0), [1], [(1, 1)]), (TOLD,))
        self.assertEqual(told[9], told[11])
        self.assertEqual(told[9], told[13])
        self.assertEqual(told[9], told[15])


class OnlyCheckHasRows(unittest.TestCase):
    def test_the_rows_stand_behind_the_place(self):
        self.assertEqual(last((SAMPLE, 0, 0, 0, 9), (CHECK, 50, 0, 0, 1, 1, 2, 1, 1)), [0, 1, 1, 3, 1, 9, 1])

    def test_both_rows_empty(self):
        self.assertEqual(run((CHECK, 50, 0, 0, 0, 0), (SAMPLE, 0, 0, 0, 9)), [[-1], [0, 1]])


if __name__ == "__main__":
    unittest.main()
