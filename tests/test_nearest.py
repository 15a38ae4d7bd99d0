"""Promise 13: nearest."""

import unittest
from itertools import permutations

from words import DROP, MODEL, NEAREST, SAMPLE, SEARCH, VALUE, last, run


class Nearest(unittest.TestCase):
    def test_its_number_and_its_value(self):
        calls = [(SAMPLE, 30, 0, 0, 5), (SAMPLE, -10, 0, 0, 7), (SAMPLE, 0, 20, 0, 9)]
        self.assertEqual(last(*calls, (NEAREST, 0, 0, 0)), [0, 2, 7])
        self.assertEqual(last(*calls, (NEAREST, 0, 20, 0)), [0, 3, 9])
        self.assertEqual(last(*calls, (NEAREST, 1000, -1000, 0)), [0, 1, 5])

    def test_each_difference_is_divided_by_its_range(self):
        calls = [(MODEL, 1, 1, 10, 20, 30), (SAMPLE, 2, 0, 0, 5), (SAMPLE, 0, 3, 0, 7), (SAMPLE, 0, 0, 4, 9)]
        self.assertEqual(last(*calls, (NEAREST, 0, 0, 0)), [0, 3, 9])

    def test_the_squares_are_added_up(self):
        self.assertEqual(last((SAMPLE, 9, 0, 0, 5), (SAMPLE, 6, 6, 0, 7), (NEAREST, 0, 0, 0)), [0, 2, 7])

    def test_of_equally_far_ones_the_lower_number(self):
        for places in permutations([(5, 0, 0), (0, -5, 0), (3, 0, 4)]):
            with self.subTest(places=places):
                calls = [(SAMPLE, 9, 0, 0, 1)] + [(SAMPLE, *place, 10 * at) for at, place in enumerate(places)]
                self.assertEqual(last(*calls, (NEAREST, 0, 0, 0)), [0, 2, 0])
                self.assertEqual(last(*calls, (DROP, 2), (NEAREST, 0, 0, 0)), [0, 3, 10])

    def test_equally_far_by_ranges_without_a_common_divisor(self):
        for places in permutations([(7, 0, 0), (0, 11, 0), (0, 0, 13)]):
            with self.subTest(places=places):
                calls = [(MODEL, 1, 1, 7, 11, 13)] + [(SAMPLE, *place, 1) for place in places]
                self.assertEqual(last(*calls, (NEAREST, 0, 0, 0)), [0, 1, 1])

    def test_however_far(self):
        calls = [(SEARCH, 1, 1, 1, 1, 1, 8), (MODEL, 1, 1, 1, 1, 1), (SAMPLE, 1000, 1000, 1000, 6)]
        self.assertEqual(last(*calls, (NEAREST, -1000, -1000, -1000)), [0, 1, 6])
        self.assertEqual(last(*calls, (SAMPLE, 1000, 999, 1000, 8), (NEAREST, -1000, -1000, -1000)), [0, 2, 8])

    def test_none(self):
        told = run((NEAREST, 0, 0, 0), (SAMPLE, 0, 0, 0, 9), (NEAREST, 0, 0, 0), (VALUE, 1, 4), (NEAREST, 0, 0, 0),
                   (DROP, 1), (NEAREST, 0, 0, 0))
        self.assertEqual(told[0::2], [[-5], [0, 1, 9], [0, 1, 4], [-5]])


if __name__ == "__main__":
    unittest.main()
