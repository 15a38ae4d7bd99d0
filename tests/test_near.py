"""Promise 1 (search), and which samples are taken, as near tells it."""

import unittest
from itertools import permutations

from words import COV, DROP, MODEL, NEAR, POINT, SAMPLE, SEARCH, last, run


def samples_at(*places):
    return [(SAMPLE, *place, 1) for place in places]


class Search(unittest.TestCase):
    def test_it_answers_0_alone(self):
        self.assertEqual(run((SEARCH, 1, 2, 3, 4, 5, 6)), [[0]])

    def test_the_last_one_holds(self):
        calls = samples_at((0, 0, 0), (1, 0, 0), (2, 0, 0))
        self.assertEqual(
            last(*calls, (SEARCH, 9, 9, 9, 1, 1, 1), (SEARCH, 9, 9, 9, 2, 8, 1), (NEAR, 0, 0, 0)), [0, 2, 1, 2])

    def test_it_changes_no_model_and_no_sample(self):
        told = run((MODEL, 3, 4, 5, 6, 7), (SAMPLE, 0, 0, 0, 9), (SEARCH, 1, 1, 1, 1, 1, 1),
                   (COV, 0, 0, 0, 0, 0, 0), (POINT, 0, 0, 0))
        self.assertEqual(told[-2:], [[0, 7, 1], [0, 9, 1, 0, 1, 0, 1, 1, 1, 1, 1]])


class LookedAt(unittest.TestCase):
    def test_as_far_on_an_axis_as_is_looked_for_and_one_more(self):
        reach = (3, 5, 7)
        for axis in range(3):
            for sign in (1, -1):
                for more, wanted in [(0, [0, 1, 1]), (1, [0, 0])]:
                    place = [10, 20, 30]
                    place[axis] += sign * (reach[axis] + more)
                    with self.subTest(place=place):
                        self.assertEqual(
                            last((SEARCH, *reach, 8, 8, 1), (SAMPLE, *place, 1), (NEAR, 10, 20, 30)), wanted)

    def test_each_axis_by_itself(self):
        calls = [(SEARCH, 3, 3, 3, 8, 8, 1)] + samples_at((3, 3, 3), (-3, -3, -3), (4, 0, 0), (0, 4, 0), (0, 0, 4))
        self.assertEqual(last(*calls, (NEAR, 0, 0, 0)), [0, 2, 1, 2])

    def test_the_greatest_reach(self):
        calls = samples_at((1000, 1000, 1000), (-1000, -1000, -1000))
        self.assertEqual(last(*calls, (NEAR, 0, 0, 0)), [0, 2, 1, 2])
        self.assertEqual(last(*calls, (NEAR, 1, 0, 0)), [0, 1, 1])

    def test_a_sample_at_the_middle_is_taken(self):
        self.assertEqual(last((SEARCH, 1, 1, 1, 1, 1, 1), (SAMPLE, 4, 5, 6, 0), (NEAR, 4, 5, 6)), [0, 1, 1])

    def test_none_of_none(self):
        self.assertEqual(last((SEARCH, 1, 1, 1, 8, 8, 8), (NEAR, 0, 0, 0)), [0, 0])


class Order(unittest.TestCase):
    def test_the_nearest_first(self):
        calls = samples_at((30, 0, 0), (10, 0, 0), (-20, 0, 0), (0, 0, 5))
        self.assertEqual(last(*calls, (NEAR, 0, 0, 0)), [0, 4, 4, 2, 3, 1])

    def test_of_equally_far_ones_the_lower_number_first(self):
        calls = samples_at((5, 0, 0), (0, -5, 0), (0, 0, 5), (-5, 0, 0), (3, 4, 0), (4, 0, 0))
        self.assertEqual(last(*calls, (NEAR, 0, 0, 0)), [0, 6, 6, 1, 2, 3, 4, 5])

    def test_the_squares_are_added_up(self):
        # 6 and 6 make 72 and are nearer than 9 alone, which makes 81, though 6 + 6 is more than 9.
        calls = samples_at((9, 0, 0), (6, 6, 0))
        self.assertEqual(last(*calls, (NEAR, 0, 0, 0)), [0, 2, 2, 1])

    def test_each_difference_is_divided_by_its_range(self):
        calls = [(MODEL, 1, 1, 10, 20, 30)] + samples_at((2, 0, 0), (0, 3, 0), (0, 0, 4))
        self.assertEqual(last(*calls, (NEAR, 0, 0, 0)), [0, 3, 3, 2, 1])

    def test_equally_far_by_the_ranges(self):
        calls = [(MODEL, 1, 1, 10, 20, 30)] + samples_at((0, 0, 6), (0, 4, 0), (2, 0, 0), (-2, 0, 0))
        self.assertEqual(last(*calls, (NEAR, 0, 0, 0)), [0, 4, 1, 2, 3, 4])

    def test_equally_far_by_ranges_without_a_common_divisor(self):
        for places in permutations([(7, 0, 0), (0, 11, 0), (0, 0, 13)]):
            with self.subTest(places=places):
                calls = [(MODEL, 1, 1, 7, 11, 13)] + samples_at(*places)
                self.assertEqual(last(*calls, (NEAR, 0, 0, 0)), [0, 3, 1, 2, 3])

    def test_farther_than_the_ranges_it_goes_on(self):
        calls = [(MODEL, 1, 1, 1, 1, 1)] + samples_at((900, 0, 0), (800, 0, 0), (0, 700, 0))
        self.assertEqual(last(*calls, (NEAR, 0, 0, 0)), [0, 3, 3, 2, 1])

    def test_nearly_equal_distances_are_told_apart(self):
        calls = [(MODEL, 1, 1, 999, 1000, 998)] + samples_at((0, 1000, 0), (999, 0, 1), (999, 0, 0))
        self.assertEqual(last(*calls, (NEAR, 0, 0, 0)), [0, 3, 1, 3, 2])

    def test_the_order_is_from_the_middle_not_from_nothing(self):
        calls = samples_at((0, 0, 0), (100, 100, 100))
        self.assertEqual(last(*calls, (NEAR, 90, 90, 90)), [0, 2, 2, 1])


class Bounds(unittest.TestCase):
    def test_most(self):
        calls = samples_at((3, 0, 0), (2, 0, 0), (-1, 0, 0), (0, 4, 0))
        for most, wanted in [(1, [0, 1, 3]), (2, [0, 2, 3, 2]), (3, [0, 3, 3, 2, 1]), (4, [0, 4, 3, 2, 1, 4]),
                             (8, [0, 4, 3, 2, 1, 4])]:
            with self.subTest(most=most):
                self.assertEqual(last(*calls, (SEARCH, 9, 9, 9, most, 8, 1), (NEAR, 0, 0, 0)), wanted)

    def test_octant_each_for_itself(self):
        calls = samples_at((1, 1, 1), (2, 2, 2), (3, 3, 3), (-4, 4, 4), (-5, 5, 5))
        for octant, wanted in [(1, [0, 2, 1, 4]), (2, [0, 4, 1, 2, 4, 5]), (3, [0, 5, 1, 2, 3, 4, 5])]:
            with self.subTest(octant=octant):
                self.assertEqual(last(*calls, (SEARCH, 9, 9, 9, 8, octant, 1), (NEAR, 0, 0, 0)), wanted)

    def test_there_are_eight_octants(self):
        corners = [(x, y, z) for x in (-1, 1) for y in (-1, 1) for z in (-1, 1)]
        farther = [(2 * x, 2 * y, 2 * z) for x, y, z in corners]
        calls = samples_at(*corners, *farther)
        self.assertEqual(
            last(*calls, (SEARCH, 9, 9, 9, 8, 1, 1), (NEAR, 0, 0, 0)), [0, 8, 1, 2, 3, 4, 5, 6, 7, 8])

    def test_a_coordinate_that_is_the_middles_is_not_less(self):
        for axis in range(3):
            for middle in (0, 10, -10, 990, -990):
                same = [middle + 5] * 3
                same[axis] = middle
                less = [middle + 5] * 3
                less[axis] = middle - 1
                calls = [(SEARCH, 9, 9, 9, 8, 1, 1)] + samples_at([middle + 6] * 3, same, less)
                with self.subTest(axis=axis, middle=middle):
                    self.assertEqual(last(*calls, (NEAR, middle, middle, middle)), [0, 2, 2, 3])

    def test_a_full_octant_leaves_room_in_most(self):
        calls = samples_at((1, 0, 0), (2, 0, 0), (3, 0, 0), (-4, 0, 0), (0, -5, 0))
        self.assertEqual(last(*calls, (SEARCH, 9, 9, 9, 2, 1, 1), (NEAR, 0, 0, 0)), [0, 2, 1, 4])

    def test_least_does_not_matter_to_near(self):
        calls = [(SEARCH, 9, 9, 9, 1, 8, 8)] + samples_at((1, 0, 0), (2, 0, 0))
        self.assertEqual(last(*calls, (NEAR, 0, 0, 0)), [0, 1, 1])
        self.assertEqual(last((SEARCH, 9, 9, 9, 1, 8, 8), (NEAR, 0, 0, 0)), [0, 0])

    def test_dropped_samples_are_not_taken(self):
        calls = samples_at((1, 0, 0), (2, 0, 0), (3, 0, 0)) + [(DROP, 2)]
        self.assertEqual(last(*calls, (NEAR, 0, 0, 0)), [0, 2, 1, 3])


if __name__ == "__main__":
    unittest.main()
