"""Many lines, each call held against what the document's words say of it."""

import random
import unittest

from words import BLOCK, COV, DROP, MODEL, NEAR, POINT, SAMPLE, SEARCH, VALUE, Reference, run


def draw_call(draw, size, heavy_left):
    """A call with numbers in their ranges; a small size makes ties, hits and neighbours common."""
    def place():
        return tuple(draw.randint(-size, size) for axis in range(3))

    def edge(low, high):
        return draw.choice([low, high, draw.randint(low, high), draw.randint(low, min(high, low + size))])

    kinds = [MODEL, SEARCH] + [SAMPLE] * 12 + [DROP, VALUE, COV, NEAR, NEAR]
    if heavy_left:
        kinds += [POINT] * 4 + [BLOCK] * 2
    kind = draw.choice(kinds)
    if kind == MODEL:
        return (kind,) + tuple(edge(1, 1000) for part in range(5))
    if kind == SEARCH:
        return (kind,) + tuple(edge(1, 1000) for axis in range(3)) + tuple(draw.randint(1, 8) for part in range(2)) + (
            draw.choice([1, 1, 1, 2, 3, 8]),)
    if kind == SAMPLE:
        return (kind,) + place() + (edge(0, 1000000),)
    if kind == DROP:
        return (kind, draw.randint(0, 24))
    if kind == VALUE:
        return (kind, draw.randint(0, 24), edge(0, 1000000))
    if kind == COV:
        return (kind,) + place() + place()
    if kind == BLOCK:
        return (kind,) + place() + tuple(edge(1, 100) for axis in range(3)) + tuple(
            draw.choice([1, 2, 2, 3, 4]) for axis in range(3))
    return (kind,) + place()


class AgainstWords(unittest.TestCase):
    def test_lines(self):
        for seed in range(120):
            draw = random.Random(seed)
            size = draw.choice([1, 3, 10, 100, 1000])
            calls = []
            for position in range(draw.randint(1, 100)):
                heavy = sum(call[0] in (POINT, BLOCK) for call in calls)
                calls.append(draw_call(draw, size, heavy < 12))
            told = run(*calls)
            self.assertEqual(len(told), len(calls))
            reference = Reference()
            for position, (call, answer) in enumerate(zip(calls, told)):
                with self.subTest(seed=seed, position=position, call=call):
                    reference.check(self, call, answer)


if __name__ == "__main__":
    unittest.main()
