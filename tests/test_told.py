"""All that is kept, as told tells it; and by it what the promises 0 to 4 say of what is set and changed."""

import unittest

from words import DROP, MODEL, SAMPLE, SEARCH, TOLD, VALUE, last, run


class Told(unittest.TestCase):
    def test_at_the_beginning(self):
        self.assertEqual(last((TOLD,)), [0, 1, 1, 100, 100, 100, 1000, 1000, 1000, 8, 8, 1, 0])

    def test_model_and_search_each_number_in_its_place(self):
        told = last((MODEL, 2, 3, 4, 5, 6), (SEARCH, 7, 8, 9, 6, 5, 4), (TOLD,))
        self.assertEqual(told, [0, 2, 3, 4, 5, 6, 7, 8, 9, 6, 5, 4, 0])

    def test_one_leaves_the_other(self):
        self.assertEqual(last((MODEL, 2, 3, 4, 5, 6), (TOLD,)), [0, 2, 3, 4, 5, 6, 1000, 1000, 1000, 8, 8, 1, 0])
        self.assertEqual(last((SEARCH, 7, 8, 9, 6, 5, 4), (TOLD,)), [0, 1, 1, 100, 100, 100, 7, 8, 9, 6, 5, 4, 0])

    def test_samples_in_the_order_in_which_they_came(self):
        told = last((SAMPLE, 9, -8, 7, 5), (SAMPLE, -1, 2, -3, 4), (TOLD,))
        self.assertEqual(told[12:], [2, 1, 9, -8, 7, 5, 2, -1, 2, -3, 4])

    def test_after_drop_and_value(self):
        calls = [(SAMPLE, x, 0, 0, 10 * x) for x in range(4)]
        told = run(*calls, (DROP, 2), (TOLD,), (VALUE, 3, 77), (TOLD,), (SAMPLE, 1, 0, 0, 6), (TOLD,))
        self.assertEqual(told[5][12:], [3, 1, 0, 0, 0, 0, 3, 2, 0, 0, 20, 4, 3, 0, 0, 30])
        self.assertEqual(told[7][12:], [3, 1, 0, 0, 0, 0, 3, 2, 0, 0, 77, 4, 3, 0, 0, 30])
        self.assertEqual(told[9][12:], [4, 1, 0, 0, 0, 0, 3, 2, 0, 0, 77, 4, 3, 0, 0, 30, 5, 1, 0, 0, 6])

    def test_after_the_last_drop(self):
        self.assertEqual(last((SAMPLE, 0, 0, 0, 1), (DROP, 1), (TOLD,))[12:], [0])

    def test_twenty_samples(self):
        calls = [(SAMPLE, 50 * x - 1000, 1000, -1000, 1000000) for x in range(20)]
        told = last(*calls, (TOLD,))
        self.assertEqual(told[12], 20)
        self.assertEqual(told[13:], [part for at, call in enumerate(calls) for part in (at + 1, *call[1:])])


if __name__ == "__main__":
    unittest.main()
