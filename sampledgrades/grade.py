"""The told grade of some places together, from samples."""

from sampledgrades.covariance import product_of_ranges, scaled_covariance, scaled_with_all
from sampledgrades.elimination import solve
from sampledgrades.lowest import lowest_terms


# The unknowns are the weights times count, and the multiplier times count times the product of the ranges:
# so all is whole. The row for the weights' sum stands last: the nugget makes what is ahead of it positive
# definite, and so solve may go through the rows in their order.
def equations(model, samples, sums, count):
    rows = []
    for sample, total in zip(samples, sums):
        row = [scaled_covariance(model, sample.place, other.place) for other in samples]
        rows.append(row + [1, total])
    rows.append([1 for sample in samples] + [0, count])
    return rows


def told_weights(samples, parts, below):
    told = []
    for sample, part in zip(samples, parts):
        told.append(sample.number)
        told.extend(lowest_terms(part, below))
    return told


# There is at least one sample: the words ask for no grade from none.
def told_grade(model, samples, places):
    count = len(places)
    sums = [scaled_with_all(model, sample.place, places) for sample in samples]
    solution = solve(equations(model, samples, sums, count))
    parts = solution[:len(samples)]
    multiplier = solution[len(samples)]
    shared = solution[len(samples) + 1]
    product = product_of_ranges(model)
    estimate = sum([part * sample.value for part, sample in zip(parts, samples)])
    with_samples = sum([part * total for part, total in zip(parts, sums)])
    with_themselves = sum([scaled_with_all(model, place, places) for place in places])
    # All three parts of the variance are brought to one number below: count * count * product * shared.
    variance = with_themselves * shared - with_samples - multiplier * count
    told = lowest_terms(estimate, count * shared)
    told.extend(lowest_terms(variance, count * count * product * shared))
    told.extend(lowest_terms(multiplier, count * product * shared))
    told.append(len(samples))
    told.extend(told_weights(samples, parts, count * shared))
    return told
