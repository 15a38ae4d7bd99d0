"""The grade beside a known mean, as simple tells it."""

import unittest

from words import (DROP, MODEL, POINT, SAMPLE, SEARCH, SIMPLE, Told, check_simple_grade, last, run)


class OneSample(unittest.TestCase):
    def test_halfway_through_the_range(self):
        # w * 2 = 1/2; 5 + 1/4 * (9 - 5) = 6; 2 - 1/4 * 1/2 = 15/8
        self.assertEqual(last((SAMPLE, 0, 0, 0, 9), (SIMPLE, 50, 0, 0, 5)), [0, 6, 1, 15, 8, 0, 1, 1, 1, 1, 4])

    def test_as_far_as_the_range_the_mean_alone_is_left(self):
        self.assertEqual(last((SAMPLE, 0, 0, 0, 9), (SIMPLE, 100, 0, 0, 5)), [0, 5, 1, 2, 1, 0, 1, 1, 1, 0, 1])

    def test_at_the_sample_its_value(self):
        self.assertEqual(last((SAMPLE, 0, 0, 0, 9), (SIMPLE, 0, 0, 0, 5)), [0, 9, 1, 0, 1, 0, 1, 1, 1, 1, 1])

    def test_a_mean_of_0_and_the_greatest(self):
        sample = (SAMPLE, 0, 0, 0, 8)
        self.assertEqual(last(sample, (SIMPLE, 50, 0, 0, 0)), [0, 2, 1, 15, 8, 0, 1, 1, 1, 1, 4])
        self.assertEqual(last(sample, (SIMPLE, 50, 0, 0, 1000000)), [0, 750002, 1, 15, 8, 0, 1, 1, 1, 1, 4])


class SomeSamples(unittest.TestCase):
    def check(self, model, samples, place, mean, numbers):
        calls = [(MODEL, *model)] + [(SAMPLE, *at, value) for at, value in samples.values()]
        told = last(*calls, (SIMPLE, *place, mean))
        check_simple_grade(self, told, model, samples, numbers, place, mean)
        return Told(told)

    def test_between_two(self):
        # w * 2 + w * 9/10 = 19/20 for each, so w = 19/58; 10 - 19/58 * (5 + 3) = 214/29; 2 - 2 * 19/58 * 19/20.
        told = last((SAMPLE, 0, 0, 0, 5), (SAMPLE, 10, 0, 0, 7), (SIMPLE, 5, 0, 0, 10))
        self.assertEqual(told, [0, 214, 29, 799, 580, 0, 1, 2, 1, 19, 58, 2, 19, 58])

    def test_the_weights_need_not_add_up_to_1(self):
        samples = {1: ((0, 0, 0), 5), 2: ((30, 10, 0), 7), 3: ((-20, 40, 10), 11)}
        told = self.check((2, 5, 100, 200, 300), samples, (10, 10, 10), 3, [1, 2, 3])
        self.assertNotEqual(sum(told.weights), 1)

    def test_eight_with_the_greatest_numbers(self):
        samples = {
            n: ((-1000 + 283 * n, 1000 - 197 * n * n % 2001, 31 * n ** 3 % 2001 - 1000), 1000000 - n)
            for n in range(1, 9)
        }
        calls = [(SAMPLE, *at, value) for at, value in samples.values()]
        numbers = Told(last(*calls, (SIMPLE, 1, 2, 3, 999999))).numbers
        self.check((1000, 1000, 1000, 1000, 1000), samples, (1, 2, 3), 999999, numbers)

    def test_the_samples_are_those_that_point_takes_in_their_order(self):
        calls = [(SEARCH, 50, 50, 50, 3, 2, 2)] + [(SAMPLE, x, 0, 0, x + 100) for x in (40, 10, 20, 30, -45, -51)]
        told = run(*calls, (POINT, 1, 2, 3), (SIMPLE, 1, 2, 3, 7))
        self.assertEqual(Told(told[-1]).numbers, [2, 3, 5])
        self.assertEqual(Told(told[-2]).numbers, [2, 3, 5])

    def test_the_mean_is_known_to_this_call_alone(self):
        calls = [(SAMPLE, 0, 0, 0, 5), (SAMPLE, 50, 0, 0, 7)]
        told = run(*calls, (POINT, 9, 9, 9), (SIMPLE, 9, 9, 9, 8), (POINT, 9, 9, 9), (SIMPLE, 9, 9, 9, 2))
        self.assertEqual(told[2], told[4])
        self.assertNotEqual(told[3], told[5])

    def test_a_dropped_sample_is_not_taken(self):
        told = last((SAMPLE, 50, 0, 0, 5), (SAMPLE, 0, 0, 0, 9), (DROP, 1), (SIMPLE, 50, 0, 0, 5))
        self.assertEqual(told, [0, 6, 1, 15, 8, 0, 1, 1, 2, 1, 4])


class TooFew(unittest.TestCase):
    def test_none_at_all(self):
        self.assertEqual(last((SIMPLE, 0, 0, 0, 5)), [-5])

    def test_none_within_reach(self):
        told = run((SEARCH, 5, 5, 5, 8, 8, 1), (SAMPLE, 6, 0, 0, 5), (SIMPLE, 0, 0, 0, 5), (SIMPLE, 1, 0, 0, 5))
        self.assertEqual(told[2], [-5])
        self.assertEqual(Told(told[3]).numbers, [1])

    def test_least(self):
        samples = [(SAMPLE, 1, 0, 0, 5), (SAMPLE, 2, 0, 0, 5)]
        for least, refused in [(1, False), (2, False), (3, True)]:
            with self.subTest(least=least):
                told = last(*samples, (SEARCH, 5, 5, 5, 8, 8, least), (SIMPLE, 0, 0, 0, 5))
                self.assertEqual(told == [-5], refused)


if __name__ == "__main__":
    unittest.main()
