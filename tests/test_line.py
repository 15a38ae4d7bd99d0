"""Promise 10: line."""

import unittest

from words import (BEGINNING_MODEL, BEGINNING_SEARCH, LINE, MODEL, POINT, SAMPLE, SEARCH, estimate, last, run, three)

SAMPLES = {1: ((0, 0, 0), 5), 2: ((30, 10, 0), 7), 3: ((-20, 40, 10), 11), 4: ((5, 5, -60), 2)}
CALLS = [(SAMPLE, *place, value) for place, value in SAMPLES.values()]


class Places(unittest.TestCase):
    def test_one_place(self):
        self.assertEqual(last((SAMPLE, 0, 0, 0, 9), (LINE, 3, 4, 5, 1, 1, 1, 1)), [0, 1, 9, 1])

    def test_ten_places_three_numbers_each(self):
        self.assertEqual(last((SAMPLE, 0, 0, 0, 9), (LINE, 3, 4, 5, 1, 1, 1, 10)), [0] + [1, 9, 1] * 10)

    def test_each_is_a_step_further_on_all_axes(self):
        for line in [(7, -9, 11, 3, -5, 8, 4), (0, 0, 0, 10, 0, 0, 3), (0, 0, 0, 0, 10, 0, 3), (0, 0, 0, 0, 0, 10, 3),
                     (90, 90, 90, -100, -100, -100, 2), (-5, 6, 7, 100, 100, 100, 3)]:
            with self.subTest(line=line):
                x, y, z, a, b, c, n = line
                told = run(*CALLS, (LINE, *line), *[(POINT, x + a * i, y + b * i, z + c * i) for i in range(n)])
                points = told[len(CALLS) + 1:]
                self.assertEqual(told[len(CALLS)], [0] + [number for point in points for number in [1] + point[1:3]])

    def test_a_step_of_0_stays_where_it_is(self):
        point = last(*CALLS, (POINT, 7, 8, 9))
        self.assertEqual(last(*CALLS, (LINE, 7, 8, 9, 0, 0, 0, 4)), [0] + ([1] + point[1:3]) * 4)

    def test_at_a_sample_its_value_and_between_two_the_estimate(self):
        told = last((SAMPLE, 0, 0, 0, 5), (SAMPLE, 10, 0, 0, 7), (LINE, 10, 0, 0, -5, 0, 0, 3))
        self.assertEqual(told, [0, 1, 7, 1, 1, 6, 1, 1, 5, 1])

    def test_an_estimate_of_0_is_told_beside_1(self):
        self.assertEqual(last((SAMPLE, 0, 0, 0, 0), (LINE, 0, 0, 0, 1, 0, 0, 2)), [0, 1, 0, 1, 1, 0, 1])


class Beyond1000(unittest.TestCase):
    def test_the_line_goes_on(self):
        for sign in (1, -1):
            with self.subTest(sign=sign):
                samples = {1: ((sign * 1000, 0, 0), 3), 2: ((sign * 990, sign * 7, 0), 11)}
                calls = [(SAMPLE, *place, value) for place, value in samples.values()]
                told = last(*calls, (LINE, sign * 1000, 0, sign * 999, sign * 20, sign * 3, 0, 10))
                wanted = [0]
                for i in range(10):
                    place = (sign * (1000 + 20 * i), sign * 3 * i, sign * 999)
                    wanted += three(estimate(BEGINNING_MODEL, BEGINNING_SEARCH, samples, place))
                self.assertEqual(told, wanted)

    def test_as_far_as_it_may_go(self):
        for sign in (1, -1):
            edge = sign * 1000
            model = (MODEL, 1, 1000, 1000, 1000, 1000)
            told = last(model, (SAMPLE, edge, edge, edge, 9), (SAMPLE, edge, edge, edge - sign, 4),
                        (LINE, edge, edge, edge, sign * 100, sign * 100, sign * 100, 10))
            samples = {1: ((edge, edge, edge), 9), 2: ((edge, edge, edge - sign), 4)}
            end = (sign * 1900,) * 3
            self.assertEqual(told[-3:], three(estimate(model[1:], BEGINNING_SEARCH, samples, end)))

    def test_how_far_is_looked_there_too(self):
        told = last((SEARCH, 150, 1, 1, 8, 8, 1), (SAMPLE, 1000, 0, 0, 9), (LINE, 950, 0, 0, 100, 0, 0, 3))
        self.assertEqual(told, [0, 1, 9, 1, 1, 9, 1, 1, 9, 1])
        told = last((SEARCH, 149, 1, 1, 8, 8, 1), (SAMPLE, 1000, 0, 0, 9), (LINE, 950, 0, 0, 100, 0, 0, 3))
        self.assertEqual(told, [0, 1, 9, 1, 1, 9, 1, 0, 0, 1])


class TooFew(unittest.TestCase):
    def test_at_some_places(self):
        told = last((SEARCH, 5, 5, 5, 8, 8, 1), (SAMPLE, 0, 0, 0, 9), (LINE, -6, 0, 0, 1, 0, 0, 3))
        self.assertEqual(told, [0, 0, 0, 1, 1, 9, 1, 1, 9, 1])
        told = last((SEARCH, 5, 5, 5, 8, 8, 1), (SAMPLE, 0, 0, 0, 9), (SAMPLE, 20, 0, 0, 4),
                    (LINE, 0, 0, 0, 10, 0, 0, 4))
        self.assertEqual(told, [0, 1, 9, 1, 0, 0, 1, 1, 4, 1, 0, 0, 1])

    def test_at_all_places_no_refusal(self):
        self.assertEqual(last((LINE, 0, 0, 0, 1, 1, 1, 3)), [0, 0, 0, 1, 0, 0, 1, 0, 0, 1])
        self.assertEqual(last((LINE, 0, 0, 0, 1, 1, 1, 1)), [0, 0, 0, 1])

    def test_least(self):
        calls = [(SEARCH, 5, 5, 5, 8, 8, 2), (SAMPLE, 0, 0, 0, 9), (SAMPLE, 4, 0, 0, 9)]
        self.assertEqual(last(*calls, (LINE, -2, 0, 0, 1, 0, 0, 2)), [0, 0, 0, 1, 1, 9, 1])


if __name__ == "__main__":
    unittest.main()
