"""What stands at a line's beginning."""

import unittest

from words import COV, NEAR, POINT, SAMPLE, TOLD, last, run


class Beginning(unittest.TestCase):
    def test_nugget_and_sill_are_1(self):
        self.assertEqual(last((COV, 3, 4, 5, 3, 4, 5)), [0, 2, 1])

    def test_the_ranges_are_100(self):
        self.assertEqual(last((COV, 0, 0, 0, 1, 0, 0)), [0, 99, 100])
        self.assertEqual(last((COV, 0, 0, 0, 0, 1, 0)), [0, 99, 100])
        self.assertEqual(last((COV, 0, 0, 0, 0, 0, 1)), [0, 99, 100])

    def test_there_are_no_samples(self):
        self.assertEqual(last((NEAR, 0, 0, 0)), [0, 0])
        self.assertEqual(last((POINT, 0, 0, 0)), [-5])
        self.assertEqual(last((SAMPLE, 0, 0, 0, 0)), [0, 1])

    def test_told_tells_all_of_it(self):
        self.assertEqual(run((TOLD,)), [[0, 1, 1, 100, 100, 100, 1000, 1000, 1000, 8, 8, 1, 0]])

    def test_samples_are_looked_for_up_to_1000(self):
        for axis in range(3):
            place = [0, 0, 0]
            place[axis] = 1000
            middle = [0, 0, 0]
            beyond = [0, 0, 0]
            beyond[axis] = -1
            told = run((SAMPLE, *place, 1), (NEAR, *middle), (NEAR, *beyond))
            self.assertEqual(told[1:], [[0, 1, 1], [0, 0]])

    def test_most_and_octant_are_8(self):
        samples = [(SAMPLE, x, 0, 0, 1) for x in range(1, 11)]
        self.assertEqual(last(*samples, (NEAR, 0, 0, 0)), [0, 8, 1, 2, 3, 4, 5, 6, 7, 8])

    def test_most_is_8_in_all_octants_together(self):
        samples = [(SAMPLE, side * x, 0, 0, 1) for x in range(1, 6) for side in (1, -1)]
        self.assertEqual(last(*samples, (NEAR, 0, 0, 0)), [0, 8, 1, 2, 3, 4, 5, 6, 7, 8])

    def test_least_is_1(self):
        self.assertEqual(last((SAMPLE, 0, 0, 0, 7), (POINT, 0, 0, 0))[:3], [0, 7, 1])


if __name__ == "__main__":
    unittest.main()
