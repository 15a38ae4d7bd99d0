"""The calls: the ranges of their numbers, and what each answers.

Each call's function is handed numbers that are in their ranges. It answers a
list: 0 and what else is told, or a refusal alone.
"""

from sampledgrades.choosing import Search, samples_taken
from sampledgrades.covariance import Model, product_of_ranges, scaled_covariance
from sampledgrades.grade import told_grade
from sampledgrades.keeping import add_sample, drop_sample, sample_at, sample_numbered
from sampledgrades.lowest import lowest_terms

OUT_OF_RANGE = -1
PLACE_HAS_SAMPLE = -2
NO_ROOM = -3
NO_SUCH_SAMPLE = -4
TOO_FEW = -5

MOST_SAMPLES = 20

# A sample's number has no range of its own: its bounds are those of every number.
RANGES = {
    0: ((1, 1000), (1, 1000), (1, 1000), (1, 1000), (1, 1000)),
    1: ((1, 1000), (1, 1000), (1, 1000), (1, 8), (1, 8), (1, 8)),
    2: ((-1000, 1000), (-1000, 1000), (-1000, 1000), (0, 1000000)),
    3: ((-1000000000000000000, 1000000000000000000),),
    4: ((-1000000000000000000, 1000000000000000000), (0, 1000000)),
    5: ((-1000, 1000), (-1000, 1000), (-1000, 1000), (-1000, 1000), (-1000, 1000), (-1000, 1000)),
    6: ((-1000, 1000), (-1000, 1000), (-1000, 1000)),
    7: ((-1000, 1000), (-1000, 1000), (-1000, 1000)),
    8: ((-1000, 1000), (-1000, 1000), (-1000, 1000), (1, 100), (1, 100), (1, 100), (1, 4), (1, 4), (1, 4)),
}


def set_model(ground, numbers):
    ground.model = Model(numbers[0], numbers[1], tuple(numbers[2:5]))
    return [0]


def set_search(ground, numbers):
    ground.search = Search(tuple(numbers[0:3]), numbers[3], numbers[4], numbers[5])
    return [0]


def take_sample(ground, numbers):
    place = tuple(numbers[0:3])
    if sample_at(ground, place) is not None:
        return [PLACE_HAS_SAMPLE]
    if len(ground.samples) >= MOST_SAMPLES:
        return [NO_ROOM]
    return [0, add_sample(ground, place, numbers[3])]


def drop(ground, numbers):
    if sample_numbered(ground, numbers[0]) is None:
        return [NO_SUCH_SAMPLE]
    drop_sample(ground, numbers[0])
    return [0, len(ground.samples)]


def set_value(ground, numbers):
    sample = sample_numbered(ground, numbers[0])
    if sample is None:
        return [NO_SUCH_SAMPLE]
    before = sample.value
    sample.value = numbers[1]
    return [0, before]


def tell_covariance(ground, numbers):
    scaled = scaled_covariance(ground.model, tuple(numbers[0:3]), tuple(numbers[3:6]))
    return [0] + lowest_terms(scaled, product_of_ranges(ground.model))


def taken_for(ground, doubled_middle):
    return samples_taken(ground.search, ground.model.ranges, ground.samples, doubled_middle)


def tell_near(ground, numbers):
    chosen = taken_for(ground, [2 * number for number in numbers])
    return [0, len(chosen)] + [sample.number for sample in chosen]


def tell_grade(ground, places, doubled_middle):
    chosen = taken_for(ground, doubled_middle)
    if len(chosen) < ground.search.least:
        return [TOO_FEW]
    return [0] + told_grade(ground.model, chosen, places)


def tell_point(ground, numbers):
    return tell_grade(ground, [tuple(numbers)], [2 * number for number in numbers])


def block_places(corner, steps, counts):
    places = []
    for i in range(counts[0]):
        for j in range(counts[1]):
            for k in range(counts[2]):
                places.append((corner[0] + i * steps[0], corner[1] + j * steps[1], corner[2] + k * steps[2]))
    return places


def tell_block(ground, numbers):
    corner = numbers[0:3]
    steps = numbers[3:6]
    counts = numbers[6:9]
    doubled_middle = [2 * corner[axis] + (counts[axis] - 1) * steps[axis] for axis in range(3)]
    return tell_grade(ground, block_places(corner, steps, counts), doubled_middle)


CALLS = {
    0: set_model,
    1: set_search,
    2: take_sample,
    3: drop,
    4: set_value,
    5: tell_covariance,
    6: tell_near,
    7: tell_point,
    8: tell_block,
}


def how_many_numbers(kind):
    return len(RANGES[kind])


def are_in_range(kind, numbers):
    for number, bounds in zip(numbers, RANGES[kind]):
        if number < bounds[0] or number > bounds[1]:
            return False
    return True


def answer_call(ground, kind, numbers):
    if not are_in_range(kind, numbers):
        return [OUT_OF_RANGE]
    return CALLS[kind](ground, numbers)
