"""What each call is handed: how many numbers and rows, and the ranges that these are in."""

# A sample's number has no range of its own: its bounds are those of every number.
RANGES = {
    0: ((1, 1000), (1, 1000), (1, 1000), (1, 1000), (1, 1000)),
    1: ((1, 1000), (1, 1000), (1, 1000), (1, 8), (1, 8), (1, 8)),
    2: ((-1000, 1000), (-1000, 1000), (-1000, 1000), (0, 1000000)),
    3: ((-1000000000000000000, 1000000000000000000),),
    4: ((-1000000000000000000, 1000000000000000000), (0, 1000000)),
    5: ((-1000, 1000), (-1000, 1000), (-1000, 1000), (-1000, 1000), (-1000, 1000), (-1000, 1000)),
    6: ((-1000, 1000), (-1000, 1000), (-1000, 1000)),
    7: ((-1000, 1000), (-1000, 1000), (-1000, 1000)),
    8: ((-1000, 1000), (-1000, 1000), (-1000, 1000), (1, 100), (1, 100), (1, 100), (1, 4), (1, 4), (1, 4)),
    9: ((-1000, 1000), (-1000, 1000), (-1000, 1000), (0, 1000000)),
    10: ((-1000, 1000), (-1000, 1000), (-1000, 1000), (-100, 100), (-100, 100), (-100, 100), (1, 10)),
    11: ((-1000, 1000), (-1000, 1000), (-1000, 1000)),
    12: (),
    13: ((-1000, 1000), (-1000, 1000), (-1000, 1000)),
    14: ((-1000, 1000), (-1000, 1000), (-1000, 1000), (1, 3)),
    15: ((-1000, 1000), (-1000, 1000), (-1000, 1000), (1, 1000), (1, 1000), (1, 1000)),
    16: (),
    17: (),
}

# Only the calls that have rows are named.
ROWS = {11: 2}

MOST_JUDGED = 8
WEIGHT_RANGES = ((-1000000, 1000000), (1, 1000000))


def how_many_numbers(kind):
    return len(RANGES[kind])


def how_many_rows(kind):
    return ROWS.get(kind, 0)


def are_within(numbers, ranges):
    for number, bounds in zip(numbers, ranges):
        if number < bounds[0] or number > bounds[1]:
            return False
    return True


def are_numbers_as_told(kind, numbers):
    return are_within(numbers, RANGES[kind])


def are_rows_as_told(samples, weights):
    if len(samples) < 1 or len(samples) > MOST_JUDGED or len(weights) != 2 * len(samples):
        return False
    for start in range(0, len(weights), 2):
        if not are_within(weights[start:start + 2], WEIGHT_RANGES):
            return False
    return True
