"""Which samples are taken for a middle.

A block's middle may lie halfway between whole numbers, so every middle is
handed in doubled here, and places are doubled before they are held against it.
"""


class Search:

    def __init__(self, reach, most, octant, least):
        self.reach = reach
        self.most = most
        self.octant = octant
        self.least = least


def doubled(place):
    return [2 * number for number in place]


def is_looked_at(search, doubled_middle, place):
    for axis in range(3):
        if abs(2 * place[axis] - doubled_middle[axis]) > 2 * search.reach[axis]:
            return False
    return True


# How far the place is, times the square of twice the product of the ranges: a whole number.
# The factor is the same for all places, so it leaves their order as it is.
def scaled_distance(ranges, doubled_middle, place):
    product = ranges[0] * ranges[1] * ranges[2]
    total = 0
    for axis in range(3):
        difference = (2 * place[axis] - doubled_middle[axis]) * (product // ranges[axis])
        total = total + difference * difference
    return total


def octant_of(doubled_middle, place):
    return tuple([2 * place[axis] < doubled_middle[axis] for axis in range(3)])


def nearest_first(ranges, samples, doubled_middle):
    return sorted(
        samples,
        key=lambda sample: (scaled_distance(ranges, doubled_middle, sample.place), sample.number),
    )


def samples_taken(search, ranges, samples, doubled_middle):
    looked_at = [sample for sample in samples if is_looked_at(search, doubled_middle, sample.place)]
    chosen = []
    in_octant = {}
    for sample in nearest_first(ranges, looked_at, doubled_middle):
        octant = octant_of(doubled_middle, sample.place)
        before = in_octant.get(octant, 0)
        if len(chosen) < search.most and before < search.octant:
            chosen.append(sample)
            in_octant[octant] = before + 1
    return chosen
