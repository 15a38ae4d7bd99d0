"""The samples' values together, as mean tells them."""

import unittest

from words import DROP, MEAN, MODEL, SAMPLE, SEARCH, VALUE, last, run


def with_values(*values):
    return [(SAMPLE, x, 0, 0, value) for x, value in enumerate(values)]


class Mean(unittest.TestCase):
    def test_one_sample(self):
        self.assertEqual(last((SAMPLE, 0, 0, 0, 9), (MEAN,)), [0, 1, 9, 1, 0, 1, 9, 9])
        self.assertEqual(last((SAMPLE, 0, 0, 0, 0), (MEAN,)), [0, 1, 0, 1, 0, 1, 0, 0])

    def test_some_samples(self):
        # 7/3; the differences are -4/3, -1/3, 5/3, their squares make 42/9, a third of that is 14/9.
        self.assertEqual(last(*with_values(2, 4, 1), (MEAN,)), [0, 3, 7, 3, 14, 9, 1, 4])

    def test_divided_by_how_many_they_are(self):
        self.assertEqual(last(*with_values(5, 9), (MEAN,)), [0, 2, 7, 1, 4, 1, 5, 9])

    def test_all_alike(self):
        self.assertEqual(last(*with_values(6, 6, 6), (MEAN,)), [0, 3, 6, 1, 0, 1, 6, 6])

    def test_twenty_with_the_least_and_the_greatest_value(self):
        told = last(*with_values(*[0, 1000000] * 10), (MEAN,))
        self.assertEqual(told, [0, 20, 500000, 1, 250000000000, 1, 0, 1000000])

    def test_the_values_kept_now(self):
        told = run(*with_values(3, 50, 7), (DROP, 2), (MEAN,), (VALUE, 1, 9), (MEAN,))
        self.assertEqual(told[4], [0, 2, 5, 1, 4, 1, 3, 7])
        self.assertEqual(told[6], [0, 2, 8, 1, 1, 1, 7, 9])

    def test_neither_the_model_nor_the_search_matters(self):
        calls = [(MODEL, 9, 9, 1, 2, 3), (SEARCH, 1, 1, 1, 1, 1, 8), (SAMPLE, 900, 0, 0, 5), (SAMPLE, -900, 0, 0, 9)]
        self.assertEqual(last(*calls, (MEAN,)), [0, 2, 7, 1, 4, 1, 5, 9])

    def test_none(self):
        told = run((MEAN,), (SAMPLE, 0, 0, 0, 9), (DROP, 1), (MEAN,))
        self.assertEqual([told[0], told[3]], [[-5], [-5]])


if __name__ == "__main__":
    unittest.main()
