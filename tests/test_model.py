"""Promise 0 (model), and the covariance as cov tells it."""

import unittest

from words import COV, MODEL, NEAR, POINT, SAMPLE, SEARCH, last, run


class Cov(unittest.TestCase):
    def test_the_sill_times_the_three_shares(self):
        # 12 * 9/10 * 18/20 * 27/30 = 8748/1000
        self.assertEqual(last((MODEL, 5, 12, 10, 20, 30), (COV, 0, 0, 0, 1, 2, 3)), [0, 2187, 250])

    def test_each_axis_has_its_own_range(self):
        model = (MODEL, 1, 1, 10, 20, 30)
        self.assertEqual(last(model, (COV, 0, 0, 0, 1, 0, 0)), [0, 9, 10])
        self.assertEqual(last(model, (COV, 0, 0, 0, 0, 1, 0)), [0, 19, 20])
        self.assertEqual(last(model, (COV, 0, 0, 0, 0, 0, 1)), [0, 29, 30])

    def test_at_one_place_the_nugget_more(self):
        self.assertEqual(last((MODEL, 5, 12, 10, 20, 30), (COV, -7, 8, 9, -7, 8, 9)), [0, 17, 1])

    def test_the_nugget_only_if_all_three_coordinates_are_the_same(self):
        model = (MODEL, 1000, 1, 2, 2, 2)
        self.assertEqual(last(model, (COV, 1, 1, 1, 0, 1, 1)), [0, 1, 2])
        self.assertEqual(last(model, (COV, 1, 1, 1, 1, 0, 1)), [0, 1, 2])
        self.assertEqual(last(model, (COV, 1, 1, 1, 1, 1, 0)), [0, 1, 2])

    def test_the_difference_is_without_its_sign(self):
        model = (MODEL, 1, 1, 10, 10, 10)
        self.assertEqual(last(model, (COV, 3, 0, 0, -1, 0, 0)), [0, 3, 5])
        self.assertEqual(last(model, (COV, -1, 0, 0, 3, 0, 0)), [0, 3, 5])

    def test_a_difference_as_great_as_the_range_or_greater(self):
        for axis in range(3):
            for difference, wanted in [(9, [0, 7, 10]), (10, [0, 0, 1]), (11, [0, 0, 1]), (1000, [0, 0, 1])]:
                for sign in (1, -1):
                    place = [0, 0, 0]
                    place[axis] = sign * difference
                    with self.subTest(place=place):
                        self.assertEqual(last((MODEL, 1, 7, 10, 10, 10), (COV, 0, 0, 0, *place)), wanted)

    def test_beyond_two_ranges_nothing_either(self):
        self.assertEqual(last((MODEL, 1, 7, 10, 10, 10), (COV, 0, 0, 0, 11, 11, 0)), [0, 0, 1])

    def test_the_farthest_places_and_the_greatest_model(self):
        self.assertEqual(
            last((MODEL, 1000, 1000, 1000, 1000, 1000), (COV, -1000, -1000, -1000, 1000, 1000, 1000)), [0, 0, 1])
        self.assertEqual(
            last((MODEL, 1000, 1000, 1000, 1000, 1000), (COV, 0, 0, 0, 999, 999, 999)), [0, 1, 1000000])
        self.assertEqual(
            last((MODEL, 1000, 1000, 1000, 1000, 1000), (COV, 1000, 1000, 1000, 1000, 1000, 1000)), [0, 2000, 1])

    def test_ranges_of_1(self):
        self.assertEqual(last((MODEL, 1, 1, 1, 1, 1), (COV, 0, 0, 0, 0, 0, 0)), [0, 2, 1])
        self.assertEqual(last((MODEL, 1, 1, 1, 1, 1), (COV, 0, 0, 0, 1, 0, 0)), [0, 0, 1])


class Model(unittest.TestCase):
    def test_it_answers_0_alone(self):
        self.assertEqual(run((MODEL, 1, 2, 3, 4, 5)), [[0]])

    def test_the_last_one_holds(self):
        self.assertEqual(last((MODEL, 9, 9, 9, 9, 9), (MODEL, 2, 3, 4, 5, 6), (COV, 0, 0, 0, 0, 0, 0)), [0, 5, 1])

    def test_it_holds_for_samples_that_were_there_before(self):
        # Seen with the ranges 100, sample 1 is the nearer one; with a short range on x it is the farther one.
        samples = [(SAMPLE, 10, 0, 0, 3), (SAMPLE, 0, 20, 0, 4)]
        self.assertEqual(last(*samples, (NEAR, 0, 0, 0)), [0, 2, 1, 2])
        self.assertEqual(last(*samples, (MODEL, 1, 1, 10, 100, 100), (NEAR, 0, 0, 0)), [0, 2, 2, 1])

    def test_it_changes_no_sample_and_no_search(self):
        told = run((SEARCH, 5, 5, 5, 1, 1, 1), (SAMPLE, 0, 0, 0, 3), (SAMPLE, 1, 0, 0, 4), (SAMPLE, 6, 0, 0, 4),
                   (MODEL, 2, 2, 2, 2, 2), (NEAR, 1, 0, 0), (POINT, 0, 0, 0))
        self.assertEqual(told[-2:], [[0, 1, 2], [0, 3, 1, 0, 1, 0, 1, 1, 1, 1, 1]])


if __name__ == "__main__":
    unittest.main()
