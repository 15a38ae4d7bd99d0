"""Promise 8: block."""

import unittest

from words import (BEGINNING_MODEL, BLOCK, MODEL, POINT, SAMPLE, SEARCH, Told, block_middle, block_places, check_grade,
                   last, run)


class Grade(unittest.TestCase):
    def test_two_places_and_one_sample_at_the_first(self):
        # With the sample (2 + 99/100)/2 = 299/200, with themselves the same; 1 * 2 + m = 299/200.
        told = last((SAMPLE, 0, 0, 0, 9), (BLOCK, 0, 0, 0, 1, 1, 1, 2, 1, 1))
        self.assertEqual(told, [0, 9, 1, 101, 200, -101, 200, 1, 1, 1, 1])

    def test_each_axis_has_its_own_step_and_count(self):
        model = (2, 5, 100, 200, 300)
        samples = {1: ((3, 40, 5), 10), 2: ((-30, 4, 50), 20), 3: ((60, -70, 8), 40)}
        calls = [(MODEL, *model)] + [(SAMPLE, *place, value) for place, value in samples.values()]
        for block in [(BLOCK, 0, 0, 0, 7, 11, 13, 4, 1, 1), (BLOCK, 0, 0, 0, 7, 11, 13, 1, 4, 1),
                      (BLOCK, 0, 0, 0, 7, 11, 13, 1, 1, 4), (BLOCK, 0, 0, 0, 7, 11, 13, 2, 3, 4),
                      (BLOCK, -9, -8, -7, 100, 1, 50, 3, 2, 1)]:
            with self.subTest(block=block):
                told = last(*calls, block)
                check_grade(self, told, model, samples, Told(told).numbers, block_places(block))

    def test_the_greatest_block_at_the_grounds_end(self):
        model = (1, 1000, 1000, 1000, 1000)
        samples = {1: ((1000, 1000, 1000), 10), 2: ((700, 800, 900), 1000000)}
        block = (BLOCK, 1000, 1000, 1000, 100, 100, 100, 4, 4, 4)
        told = last((MODEL, *model), *[(SAMPLE, *place, value) for place, value in samples.values()], block)
        check_grade(self, told, model, samples, [1, 2], block_places(block))

    def test_a_block_of_one_place_is_told_as_point_tells_it(self):
        calls = [(SAMPLE, 1, 2, 3, 4), (SAMPLE, 30, -20, 10, 7)]
        self.assertEqual(last(*calls, (BLOCK, 5, 6, 7, 100, 50, 3, 1, 1, 1)), last(*calls, (POINT, 5, 6, 7)))
        self.assertEqual(last(*calls, (BLOCK, 1, 2, 3, 100, 50, 3, 1, 1, 1)), last(*calls, (POINT, 1, 2, 3)))

    def test_a_sample_at_a_place_within_has_a_share_of_the_nugget(self):
        model = (1000, 1, 100, 100, 100)
        samples = {1: ((2, 0, 0), 10), 2: ((9, 0, 0), 20)}
        block = (BLOCK, 0, 0, 0, 1, 1, 1, 4, 1, 1)
        told = last((MODEL, *model), *[(SAMPLE, *place, value) for place, value in samples.values()], block)
        check_grade(self, told, model, samples, [1, 2], block_places(block))
        self.assertGreater(Told(told).weights[0], Told(told).weights[1])


class Middle(unittest.TestCase):
    def test_halfway_between_whole_numbers_looks_equally_far_to_both_sides(self):
        for axis in range(3):
            for corner in (0, -7):
                counts = [1, 1, 1]
                counts[axis] = 2
                samples = []
                for number in (-1, 0, 1, 2):
                    place = [0, 0, 0]
                    place[axis] = corner + number
                    samples.append((SAMPLE, *place, 1))
                first = [0, 0, 0]
                first[axis] = corner
                told = last((SEARCH, 1, 1, 1, 8, 8, 1), *samples, (BLOCK, *first, 1, 1, 1, *counts))
                with self.subTest(axis=axis, corner=corner):
                    self.assertEqual(Told(told).numbers, [2, 3])

    def test_halfway_between_whole_numbers_parts_the_octants(self):
        for axis in range(3):
            counts = [1, 1, 1]
            counts[axis] = 2
            samples = []
            for number in (0, 1, -1, 2):
                place = [0, 0, 0]
                place[axis] = number
                samples.append((SAMPLE, *place, 1))
            told = last((SEARCH, 9, 9, 9, 8, 1, 1), *samples, (BLOCK, 0, 0, 0, 1, 1, 1, *counts))
            with self.subTest(axis=axis):
                self.assertEqual(Told(told).numbers, [1, 2])

    def test_halfway_between_whole_numbers_equally_far_ones(self):
        samples = [(SAMPLE, 2, 0, 0, 1), (SAMPLE, -1, 0, 0, 1), (SAMPLE, 1, 0, 0, 1), (SAMPLE, 0, 0, 0, 1)]
        told = last(*samples, (BLOCK, 0, 0, 0, 1, 1, 1, 2, 1, 1))
        self.assertEqual(Told(told).numbers, [3, 4, 1, 2])

    def test_halfway_is_between_the_first_and_the_last_place(self):
        # 4 places with the step 10 from 0 on: the middle is 15, not 20.
        samples = [(SAMPLE, 21, 0, 0, 1), (SAMPLE, 20, 0, 0, 1), (SAMPLE, 10, 0, 0, 1), (SAMPLE, 9, 0, 0, 1)]
        told = last((SEARCH, 5, 5, 5, 8, 8, 1), *samples, (BLOCK, 0, 0, 0, 10, 1, 1, 4, 1, 1))
        self.assertEqual(Told(told).numbers, [2, 3])

    def test_a_whole_middle_has_its_edge_and_one_more(self):
        samples = [(SAMPLE, 5, 0, 0, 1), (SAMPLE, 6, 0, 0, 1), (SAMPLE, -3, 0, 0, 1), (SAMPLE, -4, 0, 0, 1)]
        told = last((SEARCH, 4, 4, 4, 8, 8, 1), *samples, (BLOCK, 0, 0, 0, 1, 1, 1, 3, 1, 1))
        self.assertEqual(Told(told).numbers, [1, 3])

    def test_the_middle_is_told_by_step_and_count_of_each_axis(self):
        block = (BLOCK, -5, 3, 8, 3, 6, 9, 2, 3, 4)
        samples = {1: ((0, 9, 21), 1), 2: ((-4, 9, 22), 1), 3: ((-3, 8, 21), 1), 4: ((-3, 9, 22), 1)}
        told = last(*[(SAMPLE, *place, value) for place, value in samples.values()], block)
        middle = block_middle(block)
        self.assertEqual([2 * number for number in middle], [-7, 18, 43])
        check_grade(self, told, BEGINNING_MODEL, samples, [2, 4, 3, 1], block_places(block))

    def test_too_few(self):
        told = run((SEARCH, 1, 1, 1, 8, 8, 2), (SAMPLE, 0, 0, 0, 1), (BLOCK, 0, 0, 0, 1, 1, 1, 2, 1, 1),
                   (SAMPLE, 1, 0, 0, 1), (BLOCK, 0, 0, 0, 1, 1, 1, 2, 1, 1), (BLOCK, 0, 0, 0, 4, 1, 1, 2, 1, 1))
        self.assertEqual(told[2], [-5])
        self.assertEqual(Told(told[4]).numbers, [1, 2])
        self.assertEqual(told[5], [-5])


if __name__ == "__main__":
    unittest.main()
