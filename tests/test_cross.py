"""Promise 12: cross."""

import unittest
from fractions import Fraction

from words import CROSS, DROP, MODEL, POINT, SAMPLE, SEARCH, TOLD, VALUE, fraction, last, run

SIX = [(SAMPLE, 0, 0, 0, 5), (SAMPLE, 30, 10, 0, 7), (SAMPLE, -20, 40, 10, 11), (SAMPLE, 5, 5, -60, 2),
       (SAMPLE, 6, 7, 8, 90), (SAMPLE, -9, -9, 9, 0)]


def from_the_others(calls, place, number):
    """What point tells of a sample's place once the sample itself is dropped."""
    return last(*calls, (DROP, number), (POINT, *place))


class Few(unittest.TestCase):
    def test_no_sample(self):
        self.assertEqual(last((CROSS,)), [0, 0, 0, 1, 0, 1])

    def test_one_sample(self):
        self.assertEqual(last((SAMPLE, 0, 0, 0, 9), (CROSS,)), [0, 0, 0, 1, 0, 1, 0, 0, 1])

    def test_two_samples_each_from_the_other(self):
        told = last((SAMPLE, 0, 0, 0, 5), (SAMPLE, 10, 0, 0, 8), (CROSS,))
        self.assertEqual(told, [0, 2, 0, 1, 18, 1, 1, 8, 1, 1, 5, 1])

    def test_the_estimate_less_the_value_and_not_the_other_way(self):
        # Each is told from its nearest alone. 1 from 2: 8 - 5; 2 from 3: 20 - 8; 3 from 2: 8 - 20.
        told = last((SEARCH, 10, 10, 10, 1, 8, 1), (SAMPLE, 0, 0, 0, 5), (SAMPLE, 10, 0, 0, 8), (SAMPLE, 19, 0, 0, 20),
                    (CROSS,))
        self.assertEqual(told, [0, 3, 3, 1, 9 + 144 + 144, 1, 1, 8, 1, 1, 20, 1, 1, 8, 1])


class Some(unittest.TestCase):
    def test_as_point_tells_it_from_the_others_alone(self):
        for setting in [(SEARCH, 1000, 1000, 1000, 8, 8, 1), (SEARCH, 30, 30, 30, 2, 1, 1),
                        (MODEL, 3, 900, 40, 50, 60)]:
            calls = [setting] + SIX
            told = last(*calls, (CROSS,))
            errors = []
            for at, call in enumerate(SIX):
                point = from_the_others(calls, call[1:4], at + 1)
                own = told[6 + 3 * at:9 + 3 * at]
                with self.subTest(setting=setting, sample=at + 1):
                    self.assertEqual(own, [0, 0, 1] if point == [-5] else [1] + point[1:3])
                if own[0]:
                    errors.append(fraction(own[1:]) - call[4])
            self.assertEqual(len(told), 6 + 3 * 6)
            self.assertEqual(told[1], len(errors))
            self.assertEqual(fraction(told[2:4]), sum(errors))
            self.assertEqual(fraction(told[4:6]), sum(error ** 2 for error in errors))

    def test_sums_of_fractions_in_lowest_terms(self):
        # Along a line: the middle one from both is 6; the outer ones from two on one side.
        told = last((SAMPLE, 0, 0, 0, 5), (SAMPLE, 10, 0, 0, 20), (SAMPLE, 20, 0, 0, 7), (CROSS,))
        outer = [fraction(told[7:9]), fraction(told[13:15])]
        self.assertEqual(told[9:12], [1, 6, 1])
        self.assertEqual(fraction(told[2:4]), outer[0] - 5 + outer[1] - 7 - 14)
        self.assertEqual(fraction(told[4:6]), (outer[0] - 5) ** 2 + (outer[1] - 7) ** 2 + 196)

    def test_some_that_could_not_be_told(self):
        calls = [(SEARCH, 5, 5, 5, 8, 8, 1), (SAMPLE, 0, 0, 0, 5), (SAMPLE, 100, 0, 0, 50), (SAMPLE, 3, 0, 0, 7)]
        self.assertEqual(last(*calls, (CROSS,)), [0, 2, 0, 1, 8, 1, 1, 7, 1, 0, 0, 1, 1, 5, 1])

    def test_none_that_could_be_told(self):
        calls = [(SEARCH, 5, 5, 5, 8, 8, 1), (SAMPLE, 0, 0, 0, 5), (SAMPLE, 100, 0, 0, 50)]
        self.assertEqual(last(*calls, (CROSS,)), [0, 0, 0, 1, 0, 1, 0, 0, 1, 0, 0, 1])

    def test_least_counts_the_others_alone(self):
        samples = [(SAMPLE, 0, 0, 0, 5), (SAMPLE, 1, 0, 0, 5), (SAMPLE, 2, 0, 0, 5)]
        self.assertEqual(last(*samples, (SEARCH, 9, 9, 9, 8, 8, 3), (CROSS,))[1], 0)
        self.assertEqual(last(*samples, (SEARCH, 9, 9, 9, 8, 8, 2), (CROSS,))[1], 3)

    def test_the_sample_itself_takes_no_room_in_most_or_octant(self):
        samples = [(SAMPLE, 0, 0, 0, 5), (SAMPLE, 1, 1, 1, 8)]
        self.assertEqual(last(*samples, (SEARCH, 9, 9, 9, 1, 1, 1), (CROSS,)), [0, 2, 0, 1, 18, 1, 1, 8, 1, 1, 5, 1])

    def test_in_the_order_in_which_they_came_and_with_the_values_kept_now(self):
        told = last((SAMPLE, 9, 9, 9, 1), (SAMPLE, 0, 0, 0, 5), (DROP, 1), (SAMPLE, -5, 0, 0, 8), (VALUE, 2, 6),
                    (CROSS,))
        self.assertEqual(told, [0, 2, 0, 1, 8, 1, 1, 8, 1, 1, 6, 1])

    def test_all_alike_differ_by_nothing(self):
        told = last(*[(SAMPLE, x * x, 7 * x, 0, 44) for x in range(5)], (CROSS,))
        self.assertEqual(told, [0, 5, 0, 1, 0, 1] + [1, 44, 1] * 5)

    def test_twenty_samples_and_nothing_is_changed(self):
        calls = [(MODEL, 997, 991, 983, 977, 971)]
        calls += [(SAMPLE, 37 * n % 200, 59 * n % 211, 83 * n % 197, 999 * n) for n in range(1, 21)]
        told = run(*calls, (TOLD,), (CROSS,), (TOLD,), (CROSS,))
        self.assertEqual(told[21], told[23])
        self.assertEqual(told[22], told[24])
        self.assertEqual(told[22][1], 20)
        estimates = [Fraction(told[22][at], told[22][at + 1]) for at in range(7, 66, 3)]
        errors = [own - call[4] for own, call in zip(estimates, calls[1:])]
        self.assertEqual(fraction(told[22][2:4]), sum(errors))
        self.assertEqual(fraction(told[22][4:6]), sum(error ** 2 for error in errors))


if __name__ == "__main__":
    unittest.main()
