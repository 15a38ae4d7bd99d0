"""The document's words over Python's own fractions, slowly and literally, for the tests to hold the program against."""

from fractions import Fraction
from math import gcd

from sampledgrades.ground import answers

(MODEL, SEARCH, SAMPLE, DROP, VALUE, COV, NEAR, POINT, BLOCK,
 SIMPLE, LINE, CHECK, CROSS, NEAREST, INVERSE, CELLS, MEAN, TOLD) = range(18)

# At most 12 of a line's calls are among these.
HEAVY = (POINT, BLOCK, SIMPLE, LINE, CROSS)

BEGINNING_MODEL = (1, 1, 100, 100, 100)
BEGINNING_SEARCH = (1000, 1000, 1000, 8, 8, 1)


def run(*calls):
    """The answers to the calls, each a tuple, as a list of one list a call."""
    return split(answers([number for call in calls for number in call]))


def last(*calls):
    return run(*calls)[-1]


def split(flat):
    parts = []
    at = 0
    while at < len(flat):
        end = at + 1 + flat[at]
        if end > len(flat):
            raise AssertionError("an answer is shorter than told")
        parts.append(flat[at + 1:end])
        at = end
    return parts


def check_call(place, numbers, weights):
    """check, for a place: weights are pairs, or single numbers where a row is to be wrong."""
    row = [part for weight in weights for part in (weight if isinstance(weight, tuple) else (weight,))]
    return (CHECK, *place, len(numbers), *numbers, len(row), *row)


def pair(number):
    return (Fraction(number).numerator, Fraction(number).denominator)


def fraction(numbers):
    above, below = numbers
    if below < 1 or gcd(above, below) != 1:
        raise AssertionError("not in lowest terms: {} {}".format(above, below))
    return Fraction(above, below)


def covariance(model, first, second):
    nugget, sill = model[:2]
    product = Fraction(sill)
    for axis in range(3):
        reach = model[2 + axis]
        product *= max(Fraction(0), Fraction(reach - abs(first[axis] - second[axis]), reach))
    return product + nugget if tuple(first) == tuple(second) else product


def how_far(model, middle, place):
    return sum(Fraction(place[axis] - middle[axis]) ** 2 / model[2 + axis] ** 2 for axis in range(3))


def taken(model, search, samples, middle):
    """samples: a dict from number to (place, value). Answered: the numbers in the order in which they are taken."""
    most, octant, least = search[3:]
    looked_at = [
        number for number, (place, value) in samples.items()
        if all(abs(place[axis] - middle[axis]) <= search[axis] for axis in range(3))
    ]
    numbers = []
    octants = []
    for number in sorted(looked_at, key=lambda n: (how_far(model, middle, samples[n][0]), n)):
        own = [samples[number][0][axis] < middle[axis] for axis in range(3)]
        if len(numbers) < most and octants.count(own) < octant:
            numbers.append(number)
            octants.append(own)
    return numbers


class Told:
    """A told grade, read number by number."""

    def __init__(self, answer):
        if answer[0] != 0:
            raise AssertionError("a refusal: {}".format(answer))
        self.estimate = fraction(answer[1:3])
        self.variance = fraction(answer[3:5])
        self.multiplier = fraction(answer[5:7])
        self.numbers = answer[8::3]
        self.weights = [fraction(answer[at:at + 2]) for at in range(9, len(answer), 3)]
        if len(self.numbers) != answer[7] or len(answer) != 8 + 3 * answer[7]:
            raise AssertionError("not as many samples as told: {}".format(answer))


def check_grade(test, answer, model, samples, numbers, places):
    """Holds a told grade against the equations by which the words define it."""
    told = Told(answer)
    test.assertEqual(told.numbers, numbers)
    with_sample = [
        sum(covariance(model, place, samples[n][0]) for place in places) / Fraction(len(places)) for n in numbers
    ]
    pairs = sum(covariance(model, one, other) for one in places for other in places)
    with_themselves = pairs / Fraction(len(places) ** 2)
    test.assertEqual(sum(told.weights), 1)
    for n, wanted in zip(numbers, with_sample):
        total = sum(w * covariance(model, samples[n][0], samples[m][0]) for m, w in zip(numbers, told.weights))
        test.assertEqual(total + told.multiplier, wanted)
    test.assertEqual(told.estimate, sum(w * samples[n][1] for n, w in zip(numbers, told.weights)))
    less = sum(w * c for w, c in zip(told.weights, with_sample))
    test.assertEqual(told.variance, with_themselves - less - told.multiplier)


def check_simple_grade(test, answer, model, samples, numbers, place, mean):
    """Holds a grade beside a known mean against the equations by which the words define it."""
    told = Told(answer)
    test.assertEqual(told.numbers, numbers)
    with_sample = [covariance(model, place, samples[n][0]) for n in numbers]
    for n, wanted in zip(numbers, with_sample):
        total = sum(w * covariance(model, samples[n][0], samples[m][0]) for m, w in zip(numbers, told.weights))
        test.assertEqual(total, wanted)
    more = sum(w * (samples[n][1] - mean) for n, w in zip(numbers, told.weights))
    test.assertEqual(told.estimate, mean + more)
    less = sum(w * c for w, c in zip(told.weights, with_sample))
    test.assertEqual(told.variance, covariance(model, place, place) - less)
    test.assertEqual(told.multiplier, 0)


def solved(rows):
    """The one solution of some equations, each a factor for each unknown and the number that they make."""
    rows = [[Fraction(number) for number in row] for row in rows]
    for column in range(len(rows)):
        chosen = next(at for at in range(column, len(rows)) if rows[at][column] != 0)
        rows[column], rows[chosen] = rows[chosen], rows[column]
        rows[column] = [number / rows[column][column] for number in rows[column]]
        for at, row in enumerate(rows):
            if at != column and row[column] != 0:
                rows[at] = [old - row[column] * new for old, new in zip(row, rows[column])]
    return [row[-1] for row in rows]


def best_weights(model, samples, numbers, place):
    """The weights of the told grade of a place, by equations solved over fractions."""
    rows = [
        [covariance(model, samples[n][0], samples[m][0]) for m in numbers]
        + [1, covariance(model, place, samples[n][0])] for n in numbers
    ]
    return solved(rows + [[1] * len(numbers) + [0, 1]])[:-1]


def estimate(model, search, samples, place):
    """The estimate of a place, or None if there are too few samples."""
    numbers = taken(model, search, samples, place)
    if len(numbers) < search[5]:
        return None
    return sum(w * samples[n][1] for n, w in zip(numbers, best_weights(model, samples, numbers, place)))


def three(told):
    return [0, 0, 1] if told is None else [1, told.numerator, told.denominator]


def judged(model, samples, place, numbers, weights):
    """What check tells, the multiplier sought by what the first sample asks of it."""
    places = [samples[n][0] for n in numbers]
    with_place = [covariance(model, place, one) for one in places]
    asked = [
        wanted - sum(w * covariance(model, one, other) for w, other in zip(weights, places))
        for one, wanted in zip(places, with_place)
    ]
    adds_up = sum(weights) == 1
    fits = adds_up and all(number == asked[0] for number in asked)
    variance = covariance(model, place, place) - 2 * sum(w * c for w, c in zip(weights, with_place))
    for w, one in zip(weights, places):
        variance += sum(w * v * covariance(model, one, other) for v, other in zip(weights, places))
    value = sum(w * samples[n][1] for w, n in zip(weights, numbers))
    return [int(adds_up), int(fits), *pair(variance), *pair(value)]


def by_inverses(model, samples, numbers, place, power):
    for n in numbers:
        if tuple(samples[n][0]) == tuple(place):
            return Fraction(samples[n][1])
    weights = [1 / how_far(model, place, samples[n][0]) ** power for n in numbers]
    return sum(w * samples[n][1] for w, n in zip(weights, numbers)) / sum(weights)


def in_cell(corner, sizes, least, place):
    """Whether the place is in the cell that is least[axis] cells off the corner on each axis."""
    first = [corner[axis] + least[axis] * sizes[axis] for axis in range(3)]
    return all(first[axis] <= place[axis] < first[axis] + sizes[axis] for axis in range(3))


def cell_number(corner, size, coordinate):
    """Sought step by step from the corner on."""
    number = 0
    while coordinate < corner + number * size:
        number -= 1
    while coordinate >= corner + (number + 1) * size:
        number += 1
    return number


def by_cells(samples, corner, sizes):
    cells = []
    for place, value in samples.values():
        cell = [cell_number(corner[axis], sizes[axis], place[axis]) for axis in range(3)]
        if cell not in cells:
            cells.append(cell)
    members = [[n for n in samples if in_cell(corner, sizes, cell, samples[n][0])] for cell in cells]
    means = [Fraction(sum(samples[n][1] for n in own), len(own)) for own in members]
    counts = [len(own) for n in samples for own in members if n in own]
    return [len(cells), *pair(sum(means) / Fraction(len(cells))), *counts]


def block_places(call):
    x, y, z, a, b, c, l, m, n = call[1:]
    return [(x + i * a, y + j * b, z + k * c) for i in range(l) for j in range(m) for k in range(n)]


def block_middle(call):
    places = block_places(call)
    return tuple(Fraction(places[0][axis] + places[-1][axis], 2) for axis in range(3))


class Reference:
    """What the words say of a line, call by call; all numbers handed in are in their ranges."""

    def __init__(self):
        self.model = BEGINNING_MODEL
        self.search = BEGINNING_SEARCH
        self.samples = {}
        self.given = 0

    def check(self, test, call, answer):
        kind, numbers = call[0], call[1:]
        if kind in (POINT, BLOCK):
            self.check_told(test, call, answer)
        elif kind == SIMPLE:
            self.check_simple(test, numbers, answer)
        else:
            test.assertEqual(answer, self.wanted(kind, numbers))

    def check_told(self, test, call, answer):
        places = block_places(call) if call[0] == BLOCK else [call[1:]]
        middle = block_middle(call) if call[0] == BLOCK else call[1:]
        chosen = taken(self.model, self.search, self.samples, middle)
        if len(chosen) < self.search[5]:
            test.assertEqual(answer, [-5])
        else:
            check_grade(test, answer, self.model, self.samples, chosen, places)

    def check_simple(self, test, numbers, answer):
        chosen = taken(self.model, self.search, self.samples, numbers[:3])
        if len(chosen) < self.search[5]:
            test.assertEqual(answer, [-5])
        else:
            check_simple_grade(test, answer, self.model, self.samples, chosen, numbers[:3], numbers[3])

    def wanted(self, kind, numbers):
        if kind <= NEAR:
            return self.wanted_of_first(kind, numbers)
        if kind == LINE:
            places = [[numbers[axis] + i * numbers[3 + axis] for axis in range(3)] for i in range(numbers[6])]
            told = [three(estimate(self.model, self.search, self.samples, place)) for place in places]
            return [0] + [number for part in told for number in part]
        if kind == CHECK:
            return self.wanted_of_check(numbers)
        if kind == CROSS:
            return self.wanted_of_cross()
        if kind == INVERSE:
            chosen = taken(self.model, self.search, self.samples, numbers[:3])
            if len(chosen) < self.search[5]:
                return [-5]
            return [0, *pair(by_inverses(self.model, self.samples, chosen, numbers[:3], numbers[3]))]
        if kind == TOLD:
            kept = [number for n, (place, value) in self.samples.items() for number in (n, *place, value)]
            return [0, *self.model, *self.search, len(self.samples), *kept]
        if not self.samples:
            return [-5]
        if kind == NEAREST:
            nearest = min(self.samples, key=lambda n: (how_far(self.model, numbers, self.samples[n][0]), n))
            return [0, nearest, self.samples[nearest][1]]
        if kind == CELLS:
            return [0, *by_cells(self.samples, numbers[:3], numbers[3:])]
        return self.wanted_of_mean()

    def wanted_of_check(self, numbers):
        chosen = numbers[4:4 + numbers[3]]
        row = numbers[5 + numbers[3]:]
        if len(set(chosen)) < len(chosen) or any(n not in self.samples for n in chosen):
            return [-4]
        weights = [Fraction(row[at], row[at + 1]) for at in range(0, len(row), 2)]
        return [0] + judged(self.model, self.samples, numbers[:3], chosen, weights)

    def wanted_of_cross(self):
        told = []
        errors = []
        for n, (place, value) in self.samples.items():
            others = {m: sample for m, sample in self.samples.items() if m != n}
            own = estimate(self.model, self.search, others, place)
            told += three(own)
            if own is not None:
                errors.append(own - value)
        return [0, len(errors), *pair(sum(errors)), *pair(sum(error ** 2 for error in errors)), *told]

    def wanted_of_mean(self):
        values = [value for place, value in self.samples.values()]
        mean = Fraction(sum(values), len(values))
        spread = sum((value - mean) ** 2 for value in values) / len(values)
        return [0, len(values), *pair(mean), *pair(spread), min(values), max(values)]

    def wanted_of_first(self, kind, numbers):
        if kind == MODEL:
            self.model = numbers
            return [0]
        if kind == SEARCH:
            self.search = numbers
            return [0]
        if kind == SAMPLE:
            return self.wanted_of_sample(numbers)
        if kind == COV:
            cov = covariance(self.model, numbers[:3], numbers[3:])
            return [0, cov.numerator, cov.denominator]
        if kind == NEAR:
            chosen = taken(self.model, self.search, self.samples, numbers)
            return [0, len(chosen)] + chosen
        if numbers[0] not in self.samples:
            return [-4]
        place, before = self.samples[numbers[0]]
        if kind == VALUE:
            self.samples[numbers[0]] = (place, numbers[1])
            return [0, before]
        del self.samples[numbers[0]]
        return [0, len(self.samples)]

    def wanted_of_sample(self, numbers):
        if any(place == numbers[:3] for place, value in self.samples.values()):
            return [-2]
        if len(self.samples) == 20:
            return [-3]
        self.given += 1
        self.samples[self.given] = (numbers[:3], numbers[3])
        return [0, self.given]
