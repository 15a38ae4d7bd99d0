"""How places hang together: a nugget, a sill and three ranges, one for each axis.

Covariances are told scaled here, times the product of the ranges: so they are
whole numbers, and a fraction is made only of what is answered.
"""


class Model:

    def __init__(self, nugget, sill, ranges):
        self.nugget = nugget
        self.sill = sill
        self.ranges = ranges


def product_of_ranges(model):
    return model.ranges[0] * model.ranges[1] * model.ranges[2]


def scaled_covariance(model, first, second):
    scaled = model.sill
    for axis in range(3):
        difference = abs(first[axis] - second[axis])
        scaled = scaled * max(0, model.ranges[axis] - difference)
    if first == second:
        scaled = scaled + model.nugget * product_of_ranges(model)
    return scaled


# The sum, not the mean: whoever divides by how many places there are does so once, at the end.
def scaled_with_all(model, place, places):
    return sum([scaled_covariance(model, place, other) for other in places])
