"""The simpler ways beside the told grade: inverse distances, cells, the mean of the values.

There is at least one sample in all of this.
"""

from sampledgrades.choosing import scaled_distance
from sampledgrades.lowest import lowest_terms, sum_of_fractions


def raised(number, power):
    product = 1
    for step in range(power):
        product = product * number
    return product


# The distances are scaled: all by one factor, which falls out of a weighted mean.
def mean_by_inverses(values, distances, power):
    powers = [raised(distance, power) for distance in distances]
    weighted = sum_of_fractions([(value, number) for value, number in zip(values, powers)])
    together = sum_of_fractions([(1, number) for number in powers])
    return lowest_terms(weighted[0] * together[1], weighted[1] * together[0])


# At the place itself there is at most one sample, and no inverse of its distance.
def told_inverse(ranges, samples, doubled_place, power):
    distances = [scaled_distance(ranges, doubled_place, sample.place) for sample in samples]
    values = [sample.value for sample in samples]
    if 0 in distances:
        return [values[distances.index(0)], 1]
    return mean_by_inverses(values, distances, power)


def cell_of(corner, sizes, place):
    return tuple([(place[axis] - corner[axis]) // sizes[axis] for axis in range(3)])


def told_cells(samples, corner, sizes):
    values_in = {}
    for sample in samples:
        values_in.setdefault(cell_of(corner, sizes, sample.place), []).append(sample.value)
    count = len(values_in)
    mean = sum_of_fractions([(sum(values), count * len(values)) for values in values_in.values()])
    in_own_cell = [len(values_in[cell_of(corner, sizes, sample.place)]) for sample in samples]
    return [count] + mean + in_own_cell


def told_mean(samples):
    values = [sample.value for sample in samples]
    count = len(values)
    total = sum(values)
    squares = sum([value * value for value in values])
    told = [count] + lowest_terms(total, count)
    told.extend(lowest_terms(count * squares - total * total, count * count))
    return told + [min(values), max(values)]
