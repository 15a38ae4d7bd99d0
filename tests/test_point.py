"""The told grade of a place, as point tells it."""

import unittest
from fractions import Fraction

from words import BEGINNING_MODEL, DROP, MODEL, POINT, SAMPLE, SEARCH, Told, check_grade, covariance, last, run

GREATEST = (1000, 1000, 1000, 1000, 1000)


class OneSample(unittest.TestCase):
    def test_halfway_through_the_range(self):
        # 1 * 2 + m = 1/2, and 2 - 1/2 + 3/2 = 3
        self.assertEqual(last((SAMPLE, 0, 0, 0, 9), (POINT, 50, 0, 0)), [0, 9, 1, 3, 1, -3, 2, 1, 1, 1, 1])

    def test_as_far_as_the_range(self):
        self.assertEqual(last((SAMPLE, 0, 0, 0, 9), (POINT, 100, 0, 0)), [0, 9, 1, 4, 1, -2, 1, 1, 1, 1, 1])

    def test_a_value_of_0(self):
        self.assertEqual(last((SAMPLE, 0, 0, 0, 0), (POINT, 100, 0, 0)), [0, 0, 1, 4, 1, -2, 1, 1, 1, 1, 1])


class SomeSamples(unittest.TestCase):
    def test_between_two(self):
        told = last((SAMPLE, 0, 0, 0, 5), (SAMPLE, 10, 0, 0, 7), (POINT, 5, 0, 0))
        self.assertEqual(told, [0, 6, 1, 31, 20, -1, 2, 2, 1, 1, 2, 2, 1, 2])

    def test_in_the_order_in_which_they_were_taken(self):
        told = Told(last((SAMPLE, 40, 0, 0, 5), (SAMPLE, 10, 0, 0, 7), (SAMPLE, 20, 0, 0, 8), (POINT, 0, 0, 0)))
        self.assertEqual(told.numbers, [2, 3, 1])

    def test_a_weight_and_the_estimate_may_be_below_0(self):
        # The nearer sample on the same line screens the one behind it, which alone has a value.
        model = (1, 1000, 10, 10, 10)
        samples = {1: ((1, 0, 0), 0), 2: ((3, 0, 0), 1000000), 3: ((-1, -2, 0), 0)}
        told = last((MODEL, *model), *[(SAMPLE, *place, value) for place, value in samples.values()], (POINT, 0, 0, 0))
        check_grade(self, told, model, samples, [1, 3, 2], [(0, 0, 0)])
        self.assertEqual(told[1:3], [-609000000, 26233])
        self.assertEqual(told[8:], [1, 20231, 26233, 3, 6611, 26233, 2, -609, 26233])

    def test_a_place_at_which_there_is_a_sample(self):
        told = last((SAMPLE, 40, 1, 0, 5), (SAMPLE, 10, 2, 0, 7), (SAMPLE, 20, 3, 0, 8), (POINT, 20, 3, 0))
        self.assertEqual(told, [0, 8, 1, 0, 1, 0, 1, 3, 3, 1, 1, 2, 0, 1, 1, 0, 1])

    def test_beside_a_dropped_sample_it_is_told_from_the_others(self):
        told = last((SAMPLE, 0, 0, 0, 5), (SAMPLE, 50, 0, 0, 7), (DROP, 1), (POINT, 0, 0, 0))
        self.assertEqual(told, [0, 7, 1, 3, 1, -3, 2, 1, 2, 1, 1])

    def test_eight_with_the_greatest_numbers(self):
        samples = {
            n: ((-1000 + 283 * n, 1000 - 197 * n * n % 2001, 31 * n ** 3 % 2001 - 1000), 1000000 - n)
            for n in range(1, 9)
        }
        calls = [(MODEL, *GREATEST)] + [(SAMPLE, *place, value) for place, value in samples.values()]
        told = last(*calls, (POINT, 1, 2, 3))
        numbers = Told(told).numbers
        check_grade(self, told, GREATEST, samples, numbers, [(1, 2, 3)])

    def test_no_other_weights_that_add_up_to_1_vary_less(self):
        samples = {1: ((0, 0, 0), 5), 2: ((30, 10, 0), 7), 3: ((-20, 40, 10), 11)}
        place = (10, 10, 10)
        told = Told(last(*[(SAMPLE, *at, value) for at, value in samples.values()], (POINT, *place)))

        def variance(weights):
            places = [samples[n][0] for n in told.numbers]
            total = covariance(BEGINNING_MODEL, place, place)
            for one, w in zip(places, weights):
                total -= 2 * w * covariance(BEGINNING_MODEL, place, one)
                total += sum(w * v * covariance(BEGINNING_MODEL, one, other) for other, v in zip(places, weights))
            return total

        self.assertEqual(variance(told.weights), told.variance)
        step = Fraction(1, 1000)
        for up in range(3):
            for down in range(3):
                if up != down:
                    others = list(told.weights)
                    others[up] += step
                    others[down] -= step
                    self.assertGreater(variance(others), told.variance)


class TooFew(unittest.TestCase):
    def test_least(self):
        samples = [(SAMPLE, 1, 0, 0, 5), (SAMPLE, 2, 0, 0, 5), (SAMPLE, 9, 0, 0, 5)]
        for least, refused in [(1, False), (2, False), (3, True), (8, True)]:
            with self.subTest(least=least):
                told = last(*samples, (SEARCH, 5, 5, 5, 8, 8, least), (POINT, 0, 0, 0))
                self.assertEqual(told == [-5], refused)

    def test_least_beyond_most(self):
        samples = [(SAMPLE, 1, 0, 0, 5), (SAMPLE, 2, 0, 0, 5)]
        self.assertEqual(last(*samples, (SEARCH, 5, 5, 5, 1, 8, 2), (POINT, 0, 0, 0)), [-5])

    def test_least_beyond_what_the_octants_allow(self):
        samples = [(SAMPLE, 1, 0, 0, 5), (SAMPLE, 2, 0, 0, 5), (SAMPLE, 3, 0, 0, 5), (SAMPLE, -3, 0, 0, 5)]
        told = run(*samples, (SEARCH, 5, 5, 5, 8, 1, 3), (POINT, 0, 0, 0), (SEARCH, 5, 5, 5, 8, 2, 3), (POINT, 0, 0, 0))
        self.assertEqual(told[5], [-5])
        self.assertEqual(told[7][7:9], [3, 1])

    def test_none_within_reach(self):
        self.assertEqual(last((SEARCH, 5, 5, 5, 8, 8, 1), (SAMPLE, 6, 0, 0, 5), (POINT, 0, 0, 0)), [-5])


if __name__ == "__main__":
    unittest.main()
