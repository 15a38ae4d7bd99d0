"""The calls: what each answers.

Each call's function is handed numbers that are in their ranges. It answers a
list: 0 and what else is told, or a refusal alone.
"""

from sampledgrades.bounds import are_numbers_as_told, are_rows_as_told
from sampledgrades.choosing import Search, doubled, nearest_first, samples_taken
from sampledgrades.covariance import Model, product_of_ranges, scaled_covariance
from sampledgrades.grade import estimate_of_place, grade_beside_mean, grade_of_places
from sampledgrades.judging import told_judgement
from sampledgrades.keeping import add_sample, drop_sample, sample_at, sample_numbered, samples_numbered
from sampledgrades.lowest import lowest_terms, sum_of_fractions
from sampledgrades.simpler import told_cells, told_inverse, told_mean

OUT_OF_RANGE = -1
PLACE_HAS_SAMPLE = -2
NO_ROOM = -3
NO_SUCH_SAMPLE = -4
TOO_FEW = -5

MOST_SAMPLES = 20
CHECK = 11


def set_model(ground, numbers):
    ground.model = Model(numbers[0], numbers[1], tuple(numbers[2:5]))
    return [0]


def set_search(ground, numbers):
    ground.search = Search(tuple(numbers[0:3]), numbers[3], numbers[4], numbers[5])
    return [0]


def take_sample(ground, numbers):
    place = tuple(numbers[0:3])
    if sample_at(ground, place) is not None:
        return [PLACE_HAS_SAMPLE]
    if len(ground.samples) >= MOST_SAMPLES:
        return [NO_ROOM]
    return [0, add_sample(ground, place, numbers[3])]


def drop(ground, numbers):
    if sample_numbered(ground, numbers[0]) is None:
        return [NO_SUCH_SAMPLE]
    drop_sample(ground, numbers[0])
    return [0, len(ground.samples)]


def set_value(ground, numbers):
    sample = sample_numbered(ground, numbers[0])
    if sample is None:
        return [NO_SUCH_SAMPLE]
    before = sample.value
    sample.value = numbers[1]
    return [0, before]


def tell_covariance(ground, numbers):
    scaled = scaled_covariance(ground.model, tuple(numbers[0:3]), tuple(numbers[3:6]))
    return [0] + lowest_terms(scaled, product_of_ranges(ground.model))


def taken_for(ground, doubled_middle):
    return samples_taken(ground.search, ground.model.ranges, ground.samples, doubled_middle)


def are_too_few(ground, chosen):
    return len(chosen) < ground.search.least


def tell_near(ground, numbers):
    chosen = taken_for(ground, doubled(numbers))
    return [0, len(chosen)] + [sample.number for sample in chosen]


def tell_grade(ground, places, doubled_middle):
    chosen = taken_for(ground, doubled_middle)
    if are_too_few(ground, chosen):
        return [TOO_FEW]
    return [0] + grade_of_places(ground.model, chosen, places)


def tell_point(ground, numbers):
    return tell_grade(ground, [tuple(numbers)], doubled(numbers))


def block_places(corner, steps, counts):
    places = []
    for i in range(counts[0]):
        for j in range(counts[1]):
            for k in range(counts[2]):
                places.append((corner[0] + i * steps[0], corner[1] + j * steps[1], corner[2] + k * steps[2]))
    return places


def tell_block(ground, numbers):
    corner = numbers[0:3]
    steps = numbers[3:6]
    counts = numbers[6:9]
    doubled_middle = [2 * corner[axis] + (counts[axis] - 1) * steps[axis] for axis in range(3)]
    return tell_grade(ground, block_places(corner, steps, counts), doubled_middle)


def tell_simple(ground, numbers):
    place = tuple(numbers[0:3])
    chosen = taken_for(ground, doubled(place))
    if are_too_few(ground, chosen):
        return [TOO_FEW]
    return [0] + grade_beside_mean(ground.model, chosen, place, numbers[3])


# None if there are too few of these samples.
def estimate_from(ground, samples, place):
    chosen = samples_taken(ground.search, ground.model.ranges, samples, doubled(place))
    if are_too_few(ground, chosen):
        return None
    return estimate_of_place(ground.model, chosen, place)


def three_numbers(estimate):
    return [0, 0, 1] if estimate is None else [1] + estimate


def tell_line(ground, numbers):
    told = [0]
    for step in range(numbers[6]):
        place = tuple([numbers[axis] + step * numbers[3 + axis] for axis in range(3)])
        told.extend(three_numbers(estimate_from(ground, ground.samples, place)))
    return told


def tell_check(ground, numbers, rows):
    samples = samples_numbered(ground, rows[0])
    if samples is None:
        return [NO_SUCH_SAMPLE]
    weights = [tuple(rows[1][start:start + 2]) for start in range(0, len(rows[1]), 2)]
    return [0] + told_judgement(ground.model, tuple(numbers), samples, weights)


def tell_cross(ground, numbers):
    told = []
    errors = []
    for sample in ground.samples:
        others = [other for other in ground.samples if other.number != sample.number]
        estimate = estimate_from(ground, others, sample.place)
        told.extend(three_numbers(estimate))
        if estimate is not None:
            errors.append((estimate[0] - sample.value * estimate[1], estimate[1]))
    squares = [(error[0] * error[0], error[1] * error[1]) for error in errors]
    return [0, len(errors)] + sum_of_fractions(errors) + sum_of_fractions(squares) + told


def tell_nearest(ground, numbers):
    if len(ground.samples) == 0:
        return [TOO_FEW]
    nearest = nearest_first(ground.model.ranges, ground.samples, doubled(numbers))[0]
    return [0, nearest.number, nearest.value]


def tell_inverse(ground, numbers):
    doubled_place = doubled(numbers[0:3])
    chosen = taken_for(ground, doubled_place)
    if are_too_few(ground, chosen):
        return [TOO_FEW]
    return [0] + told_inverse(ground.model.ranges, chosen, doubled_place, numbers[3])


def tell_cells(ground, numbers):
    if len(ground.samples) == 0:
        return [TOO_FEW]
    return [0] + told_cells(ground.samples, numbers[0:3], numbers[3:6])


def tell_mean(ground, numbers):
    if len(ground.samples) == 0:
        return [TOO_FEW]
    return [0] + told_mean(ground.samples)


def tell_told(ground, numbers):
    model = ground.model
    search = ground.search
    told = [0, model.nugget, model.sill] + list(model.ranges)
    told.extend(list(search.reach) + [search.most, search.octant, search.least])
    told.append(len(ground.samples))
    for sample in ground.samples:
        told.extend([sample.number] + list(sample.place) + [sample.value])
    return told


# Without check, the one call that has rows too.
CALLS = {
    0: set_model,
    1: set_search,
    2: take_sample,
    3: drop,
    4: set_value,
    5: tell_covariance,
    6: tell_near,
    7: tell_point,
    8: tell_block,
    9: tell_simple,
    10: tell_line,
    12: tell_cross,
    13: tell_nearest,
    14: tell_inverse,
    15: tell_cells,
    16: tell_mean,
    17: tell_told,
}


def answer_call(ground, kind, numbers, rows):
    if not are_numbers_as_told(kind, numbers):
        return [OUT_OF_RANGE]
    if kind != CHECK:
        return CALLS[kind](ground, numbers)
    if not are_rows_as_told(rows[0], rows[1]):
        return [OUT_OF_RANGE]
    return tell_check(ground, numbers, rows)
