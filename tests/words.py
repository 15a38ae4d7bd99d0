"""The document's words over Python's own fractions, slowly and literally, for the tests to hold the program against."""

from fractions import Fraction
from math import gcd

from sampledgrades.ground import answers

MODEL, SEARCH, SAMPLE, DROP, VALUE, COV, NEAR, POINT, BLOCK = range(9)

BEGINNING_MODEL = (1, 1, 100, 100, 100)
BEGINNING_SEARCH = (1000, 1000, 1000, 8, 8, 1)


def run(*calls):
    """The answers to the calls, each a tuple, as a list of one list a call."""
    return split(answers([number for call in calls for number in call]))


def last(*calls):
    return run(*calls)[-1]


def split(flat):
    parts = []
    at = 0
    while at < len(flat):
        end = at + 1 + flat[at]
        if end > len(flat):
            raise AssertionError("an answer is shorter than told")
        parts.append(flat[at + 1:end])
        at = end
    return parts


def fraction(numbers):
    above, below = numbers
    if below < 1 or gcd(above, below) != 1:
        raise AssertionError("not in lowest terms: {} {}".format(above, below))
    return Fraction(above, below)


def covariance(model, first, second):
    nugget, sill = model[:2]
    product = Fraction(sill)
    for axis in range(3):
        reach = model[2 + axis]
        product *= max(Fraction(0), Fraction(reach - abs(first[axis] - second[axis]), reach))
    return product + nugget if tuple(first) == tuple(second) else product


def how_far(model, middle, place):
    return sum(Fraction(place[axis] - middle[axis]) ** 2 / model[2 + axis] ** 2 for axis in range(3))


def taken(model, search, samples, middle):
    """samples: a dict from number to (place, value). Answered: the numbers in the order in which they are taken."""
    most, octant, least = search[3:]
    looked_at = [
        number for number, (place, value) in samples.items()
        if all(abs(place[axis] - middle[axis]) <= search[axis] for axis in range(3))
    ]
    numbers = []
    octants = []
    for number in sorted(looked_at, key=lambda n: (how_far(model, middle, samples[n][0]), n)):
        own = [samples[number][0][axis] < middle[axis] for axis in range(3)]
        if len(numbers) < most and octants.count(own) < octant:
            numbers.append(number)
            octants.append(own)
    return numbers


class Told:
    """A told grade, read number by number."""

    def __init__(self, answer):
        if answer[0] != 0:
            raise AssertionError("a refusal: {}".format(answer))
        self.estimate = fraction(answer[1:3])
        self.variance = fraction(answer[3:5])
        self.multiplier = fraction(answer[5:7])
        self.numbers = answer[8::3]
        self.weights = [fraction(answer[at:at + 2]) for at in range(9, len(answer), 3)]
        if len(self.numbers) != answer[7] or len(answer) != 8 + 3 * answer[7]:
            raise AssertionError("not as many samples as told: {}".format(answer))


def check_grade(test, answer, model, samples, numbers, places):
    """Holds a told grade against the equations by which the words define it."""
    told = Told(answer)
    test.assertEqual(told.numbers, numbers)
    with_sample = [
        sum(covariance(model, place, samples[n][0]) for place in places) / Fraction(len(places)) for n in numbers
    ]
    pairs = sum(covariance(model, one, other) for one in places for other in places)
    with_themselves = pairs / Fraction(len(places) ** 2)
    test.assertEqual(sum(told.weights), 1)
    for n, wanted in zip(numbers, with_sample):
        total = sum(w * covariance(model, samples[n][0], samples[m][0]) for m, w in zip(numbers, told.weights))
        test.assertEqual(total + told.multiplier, wanted)
    test.assertEqual(told.estimate, sum(w * samples[n][1] for n, w in zip(numbers, told.weights)))
    less = sum(w * c for w, c in zip(told.weights, with_sample))
    test.assertEqual(told.variance, with_themselves - less - told.multiplier)


def block_places(call):
    x, y, z, a, b, c, l, m, n = call[1:]
    return [(x + i * a, y + j * b, z + k * c) for i in range(l) for j in range(m) for k in range(n)]


def block_middle(call):
    places = block_places(call)
    return tuple(Fraction(places[0][axis] + places[-1][axis], 2) for axis in range(3))


class Reference:
    """What the words say of a line, call by call; all numbers handed in are in their ranges."""

    def __init__(self):
        self.model = BEGINNING_MODEL
        self.search = BEGINNING_SEARCH
        self.samples = {}
        self.given = 0

    def check(self, test, call, answer):
        kind, numbers = call[0], call[1:]
        if kind in (POINT, BLOCK):
            self.check_told(test, call, answer)
        else:
            test.assertEqual(answer, self.wanted(kind, numbers))

    def check_told(self, test, call, answer):
        places = block_places(call) if call[0] == BLOCK else [call[1:]]
        middle = block_middle(call) if call[0] == BLOCK else call[1:]
        chosen = taken(self.model, self.search, self.samples, middle)
        if len(chosen) < self.search[5]:
            test.assertEqual(answer, [-5])
        else:
            check_grade(test, answer, self.model, self.samples, chosen, places)

    def wanted(self, kind, numbers):
        if kind == MODEL:
            self.model = numbers
            return [0]
        if kind == SEARCH:
            self.search = numbers
            return [0]
        if kind == SAMPLE:
            return self.wanted_of_sample(numbers)
        if kind == COV:
            cov = covariance(self.model, numbers[:3], numbers[3:])
            return [0, cov.numerator, cov.denominator]
        if kind == NEAR:
            chosen = taken(self.model, self.search, self.samples, numbers)
            return [0, len(chosen)] + chosen
        if numbers[0] not in self.samples:
            return [-4]
        place, before = self.samples[numbers[0]]
        if kind == VALUE:
            self.samples[numbers[0]] = (place, numbers[1])
            return [0, before]
        del self.samples[numbers[0]]
        return [0, len(self.samples)]

    def wanted_of_sample(self, numbers):
        if any(place == numbers[:3] for place, value in self.samples.values()):
            return [-2]
        if len(self.samples) == 20:
            return [-3]
        self.given += 1
        self.samples[self.given] = (numbers[:3], numbers[3])
        return [0, self.given]
