"""Many lines, each call held against what the document's words say of it."""

import random
import unittest

from words import (BLOCK, CELLS, CHECK, COV, CROSS, DROP, HEAVY, INVERSE, LINE, MEAN, MODEL, NEAR, NEAREST, POINT,
                   SAMPLE, SEARCH, SIMPLE, TOLD, VALUE, Reference, best_weights, check_call, pair, run)


class Drawn:
    """Draws calls with numbers in their ranges; a small size makes ties, hits and neighbours common."""

    def __init__(self, seed):
        self.draw = random.Random(seed)
        self.size = self.draw.choice([1, 3, 10, 100, 1000])
        self.kept = Reference()
        self.heavy_left = 12

    def place(self):
        return tuple(self.draw.randint(-self.size, self.size) for axis in range(3))

    def edge(self, low, high):
        near = self.draw.randint(low, min(high, low + self.size))
        return self.draw.choice([low, high, self.draw.randint(low, high), near])

    def three_edges(self, low, high):
        return tuple(self.edge(low, high) for axis in range(3))

    def kind(self):
        kinds = [MODEL, SEARCH] + [SAMPLE] * 14 + [DROP, VALUE, COV, NEAR, NEAR]
        kinds += [CHECK] * 4 + [NEAREST] * 2 + [INVERSE] * 3 + [CELLS] * 2 + [MEAN, TOLD]
        if self.heavy_left:
            kinds += [POINT] * 3 + [BLOCK] * 2 + [SIMPLE] * 3 + [LINE] * 2 + [CROSS]
        return self.draw.choice(kinds)

    def call(self):
        call = self.numbers_of(self.kind())
        if call[0] in HEAVY:
            self.heavy_left -= 1
        if call[0] in (MODEL, SEARCH, SAMPLE, DROP, VALUE):
            self.kept.wanted(call[0], call[1:])
        return call

    def numbers_of(self, kind):
        draw = self.draw
        if kind == MODEL:
            return (kind, self.edge(1, 1000), self.edge(1, 1000)) + self.three_edges(1, 1000)
        if kind == SEARCH:
            bounds = (draw.randint(1, 8), draw.randint(1, 8), draw.choice([1, 1, 1, 2, 3, 8]))
            return (kind,) + self.three_edges(1, 1000) + bounds
        if kind in (SAMPLE, SIMPLE):
            return (kind,) + self.place() + (self.edge(0, 1000000),)
        if kind == DROP:
            return (kind, draw.randint(0, 24))
        if kind == VALUE:
            return (kind, draw.randint(0, 24), self.edge(0, 1000000))
        if kind == COV:
            return (kind,) + self.place() + self.place()
        if kind == BLOCK:
            counts = tuple(draw.choice([1, 2, 2, 3, 4]) for axis in range(3))
            return (kind,) + self.place() + self.three_edges(1, 100) + counts
        if kind == LINE:
            return (kind,) + self.place() + self.three_edges(-100, 100) + (draw.choice([1, 2, 3, 10]),)
        if kind == CHECK:
            return self.check()
        if kind == INVERSE:
            return (kind,) + self.place() + (draw.randint(1, 3),)
        if kind == CELLS:
            return (kind,) + self.place() + self.three_edges(1, 1000)
        if kind in (CROSS, MEAN, TOLD):
            return (kind,)
        return (kind,) + self.place()

    def check(self):
        """Mostly of samples that are there; the weights any, or such as add up to 1, or those of the told grade."""
        draw = self.draw
        place = self.place()
        numbers = list(self.kept.samples)
        draw.shuffle(numbers)
        numbers = numbers[:draw.choice([1, 2, 2, 3, 8])]
        if not numbers or draw.random() < 0.1:
            numbers = numbers[:7] + [draw.randint(0, 24)]
        weights = [(draw.randint(-9, 9), draw.randint(1, 9)) for number in numbers]
        way = draw.choice(["any", "greatest", "even", "best"])
        if way == "greatest":
            weights = [(draw.choice([-1000000, 1000000]), self.edge(1, 1000000)) for number in numbers]
        elif way == "even":
            weights = [(1, len(numbers)) for number in numbers]
        elif way == "best" and len(set(numbers)) == len(numbers) and all(n in self.kept.samples for n in numbers):
            best = [pair(w) for w in best_weights(self.kept.model, self.kept.samples, numbers, place)]
            if all(-1000000 <= above <= 1000000 and below <= 1000000 for above, below in best):
                weights = best
        return check_call(place, numbers, weights)


class AgainstWords(unittest.TestCase):
    def test_lines(self):
        for seed in range(120):
            drawn = Drawn(seed)
            calls = [drawn.call() for position in range(drawn.draw.randint(1, 100))]
            told = run(*calls)
            self.assertEqual(len(told), len(calls))
            reference = Reference()
            for position, (call, answer) in enumerate(zip(calls, told)):
                with self.subTest(seed=seed, position=position, call=call):
                    reference.check(self, call, answer)


if __name__ == "__main__":
    unittest.main()
