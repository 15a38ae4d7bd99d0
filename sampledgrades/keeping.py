"""What is kept from one call of a line to the next."""

from sampledgrades.choosing import Search
from sampledgrades.covariance import Model


class Sample:

    def __init__(self, number, place, value):
        self.number = number
        self.place = place
        self.value = value


# The last number is kept by itself, so that a dropped sample's number is not given again.
class Ground:

    def __init__(self):
        self.model = Model(1, 1, (100, 100, 100))
        self.search = Search((1000, 1000, 1000), 8, 8, 1)
        self.samples = []
        self.last_number = 0


def sample_at(ground, place):
    for sample in ground.samples:
        if sample.place == place:
            return sample
    return None


def sample_numbered(ground, number):
    for sample in ground.samples:
        if sample.number == number:
            return sample
    return None


# None if a number is no sample's, or comes twice.
def samples_numbered(ground, numbers):
    found = [sample_numbered(ground, number) for number in numbers]
    if None in found or len(set(numbers)) < len(numbers):
        return None
    return found


def add_sample(ground, place, value):
    ground.last_number = ground.last_number + 1
    ground.samples.append(Sample(ground.last_number, place, value))
    return ground.last_number


def drop_sample(ground, number):
    ground.samples = [sample for sample in ground.samples if sample.number != number]
