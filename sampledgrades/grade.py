"""The told grade of some places together, from samples: by itself, and beside a known mean.

There is at least one sample in all of this: the words ask for no grade from none.
"""

from sampledgrades.covariance import product_of_ranges, scaled_covariance, scaled_with_all
from sampledgrades.elimination import solve
from sampledgrades.lowest import lowest_terms


# sums has, for each sample, its scaled covariances with all the places together. The weights are the parts divided
# by count * shared, the multiplier is what is kept divided by count * shared * the product of the ranges.
class Weighing:

    def __init__(self, sums, parts, multiplier, shared):
        self.sums = sums
        self.parts = parts
        self.multiplier = multiplier
        self.shared = shared


def sums_with_places(model, samples, places):
    return [scaled_with_all(model, sample.place, places) for sample in samples]


def covariance_rows(model, samples):
    rows = []
    for sample in samples:
        rows.append([scaled_covariance(model, sample.place, other.place) for other in samples])
    return rows


# The unknowns are the weights times count, and the multiplier times count times the product of the ranges:
# so all is whole. The row for the weights' sum stands last: the nugget makes what is ahead of it positive
# definite, and so solve may go through the rows in their order.
def weighing_that_adds_up(model, samples, places):
    sums = sums_with_places(model, samples, places)
    rows = [row + [1, total] for row, total in zip(covariance_rows(model, samples), sums)]
    rows.append([1 for sample in samples] + [0, len(places)])
    solution = solve(rows)
    size = len(samples)
    return Weighing(sums, solution[:size], solution[size], solution[size + 1])


def weighing_beside_mean(model, samples, places):
    sums = sums_with_places(model, samples, places)
    rows = [row + [total] for row, total in zip(covariance_rows(model, samples), sums)]
    solution = solve(rows)
    size = len(samples)
    return Weighing(sums, solution[:size], 0, solution[size])


# Where the weights add up to 1 the mean makes no difference, and any may be handed in.
def told_estimate(samples, weighing, count, mean):
    below = count * weighing.shared
    above = mean * below
    for sample, part in zip(samples, weighing.parts):
        above = above + part * (sample.value - mean)
    return lowest_terms(above, below)


# All three parts of the variance are brought to one number below: count * count * product * shared.
def told_variance(model, places, weighing):
    count = len(places)
    with_samples = sum([part * total for part, total in zip(weighing.parts, weighing.sums)])
    with_themselves = sum([scaled_with_all(model, place, places) for place in places])
    above = with_themselves * weighing.shared - with_samples - weighing.multiplier * count
    return lowest_terms(above, count * count * product_of_ranges(model) * weighing.shared)


def told_weights(samples, parts, below):
    told = []
    for sample, part in zip(samples, parts):
        told.append(sample.number)
        told.extend(lowest_terms(part, below))
    return told


def told_whole(model, samples, places, weighing, mean):
    below = len(places) * weighing.shared
    told = told_estimate(samples, weighing, len(places), mean)
    told.extend(told_variance(model, places, weighing))
    told.extend(lowest_terms(weighing.multiplier, below * product_of_ranges(model)))
    told.append(len(samples))
    told.extend(told_weights(samples, weighing.parts, below))
    return told


def grade_of_places(model, samples, places):
    return told_whole(model, samples, places, weighing_that_adds_up(model, samples, places), 0)


def grade_beside_mean(model, samples, place, mean):
    return told_whole(model, samples, [place], weighing_beside_mean(model, samples, [place]), mean)


def estimate_of_place(model, samples, place):
    return told_estimate(samples, weighing_that_adds_up(model, samples, [place]), 1, 0)
