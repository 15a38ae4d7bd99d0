"""Promise 15: cells."""

import unittest

from words import CELLS, DROP, MODEL, SAMPLE, SEARCH, VALUE, last, run


class Cells(unittest.TestCase):
    def test_the_mean_of_the_means(self):
        # 1 and 3 make 2, 11 alone makes 11: 13/2, though the mean of all is 5.
        calls = [(SAMPLE, 1, 1, 1, 1), (SAMPLE, 15, 1, 1, 11), (SAMPLE, 2, 2, 2, 3)]
        self.assertEqual(last(*calls, (CELLS, 0, 0, 0, 10, 10, 10)), [0, 2, 13, 2, 2, 1, 2])

    def test_means_that_are_fractions(self):
        # (1 + 2)/2 and (3 + 4 + 6)/3: 3/2 + 13/3 = 35/6, half of it 35/12.
        calls = [(SAMPLE, x, 0, 0, value) for x, value in [(0, 1), (1, 2), (10, 3), (11, 4), (12, 6)]]
        self.assertEqual(last(*calls, (CELLS, 0, 0, 0, 10, 10, 10)), [0, 2, 35, 12, 2, 2, 3, 3, 3])

    def test_one_sample(self):
        self.assertEqual(last((SAMPLE, 5, 6, 7, 9), (CELLS, 0, 0, 0, 1, 1, 1)), [0, 1, 9, 1, 1])

    def test_none(self):
        told = run((CELLS, 0, 0, 0, 1, 1, 1), (SAMPLE, 0, 0, 0, 0), (CELLS, 0, 0, 0, 1, 1, 1), (DROP, 1),
                   (CELLS, 0, 0, 0, 1, 1, 1))
        self.assertEqual(told[0::2], [[-5], [0, 1, 0, 1, 1], [-5]])

    def test_neither_the_model_nor_the_search_matters(self):
        calls = [(MODEL, 9, 9, 1, 2, 3), (SEARCH, 1, 1, 1, 1, 1, 8), (SAMPLE, 900, 0, 0, 5), (SAMPLE, -900, 0, 0, 7)]
        self.assertEqual(last(*calls, (CELLS, 0, 0, 0, 1000, 1, 1)), [0, 2, 6, 1, 1, 1])

    def test_the_values_kept_now_in_the_order_in_which_they_came(self):
        calls = [(SAMPLE, 5, 0, 0, 1), (SAMPLE, 900, 0, 0, 2), (SAMPLE, 1, 0, 0, 4), (SAMPLE, 2, 0, 0, 8), (DROP, 1),
                 (VALUE, 3, 6)]
        self.assertEqual(last(*calls, (CELLS, 0, 0, 0, 10, 10, 10)), [0, 2, 9, 2, 1, 2, 2])


class Boundaries(unittest.TestCase):
    def together(self, corner, sizes, first, second):
        told = last((SAMPLE, *first, 2), (SAMPLE, *second, 4), (CELLS, *corner, *sizes))
        self.assertIn(told, ([0, 1, 3, 1, 2, 2], [0, 2, 3, 1, 1, 1]))
        return told[1] == 1

    def test_on_each_axis_a_boundary_belongs_to_the_cell_that_begins_there(self):
        corner = (3, -4, 50)
        sizes = (10, 7, 9)
        for axis in range(3):
            for cells in (-3, -2, -1, 0, 1, 2):
                boundary = corner[axis] + cells * sizes[axis]
                for one, other, wanted in [(boundary, boundary + 1, True), (boundary, boundary + sizes[axis] - 1, True),
                                           (boundary, boundary + sizes[axis], False), (boundary - 1, boundary, False),
                                           (boundary - sizes[axis], boundary - 1, True)]:
                    first = list(corner)
                    first[axis] = one
                    second = list(corner)
                    second[axis] = other
                    with self.subTest(axis=axis, one=one, other=other):
                        self.assertEqual(self.together(corner, sizes, first, second), wanted)

    def test_below_the_corner_on_all_axes(self):
        self.assertTrue(self.together((0, 0, 0), (10, 10, 10), (-1, -1, -1), (-10, -10, -10)))
        self.assertFalse(self.together((0, 0, 0), (10, 10, 10), (-1, -1, -1), (-10, -10, -11)))
        self.assertFalse(self.together((0, 0, 0), (10, 10, 10), (-1, -1, -1), (0, 0, 0)))

    def test_one_axis_is_enough_to_part_two(self):
        for second in [(10, 0, 0), (0, 10, 0), (0, 0, 10), (-1, 0, 0), (0, -1, 0), (0, 0, -1)]:
            self.assertFalse(self.together((0, 0, 0), (10, 10, 10), (0, 0, 0), second))
        self.assertTrue(self.together((0, 0, 0), (10, 10, 10), (0, 0, 0), (9, 9, 9)))

    def test_cells_of_size_1_and_of_the_greatest_size(self):
        self.assertFalse(self.together((1000, 1000, 1000), (1, 1, 1), (-1000, 0, 0), (-999, 0, 0)))
        self.assertTrue(self.together((1000, 1000, 1000), (1000, 1000, 1000), (0, 0, 0), (999, 999, 999)))
        self.assertFalse(self.together((1000, 1000, 1000), (1000, 1000, 1000), (0, 0, 0), (1000, 999, 999)))
        self.assertTrue(self.together((-1000, -1000, -1000), (1000, 1000, 1000), (-1000, -1000, -1000), (-1, -1, -1)))


if __name__ == "__main__":
    unittest.main()
