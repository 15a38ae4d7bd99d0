"""Weights that others tell, judged for a place.

The weights are brought to one number below, which they share, so that all is whole: the parts are what is above it.
"""

from sampledgrades.covariance import product_of_ranges, scaled_covariance
from sampledgrades.lowest import lowest_terms


def product_of_belows(weights):
    product = 1
    for weight in weights:
        product = product * weight[1]
    return product


def weighted_with_samples(model, place, samples, parts):
    return sum([part * scaled_covariance(model, place, sample.place) for sample, part in zip(samples, parts)])


# A multiplier that fits one sample must fit all of them.
def are_all_the_same(numbers):
    return numbers.count(numbers[0]) == len(numbers)


def told_judgement(model, place, samples, weights):
    shared = product_of_belows(weights)
    parts = [weight[0] * (shared // weight[1]) for weight in weights]
    with_place = [scaled_covariance(model, place, sample.place) for sample in samples]
    with_samples = [weighted_with_samples(model, sample.place, samples, parts) for sample in samples]
    multipliers = [shared * one - other for one, other in zip(with_place, with_samples)]
    add_up = sum(parts) == shared
    pairs = sum([part * total for part, total in zip(parts, with_samples)])
    twice = 2 * shared * weighted_with_samples(model, place, samples, parts)
    with_itself = shared * shared * scaled_covariance(model, place, place)
    told = [1 if add_up else 0, 1 if add_up and are_all_the_same(multipliers) else 0]
    told.extend(lowest_terms(pairs - twice + with_itself, shared * shared * product_of_ranges(model)))
    told.extend(lowest_terms(sum([part * sample.value for sample, part in zip(samples, parts)]), shared))
    return told
