"""Fractions in lowest terms."""


# Both numbers are from 0 on, and not both are 0.
def greatest_divisor(first, second):
    while second != 0:
        rest = first % second
        first = second
        second = rest
    return first


# A solution's shared number below may be less than 0; what is told below is from 1 on, so both signs are turned.
def lowest_terms(above, below):
    divisor = greatest_divisor(abs(above), abs(below))
    if below < 0:
        divisor = -divisor
    return [above // divisor, below // divisor]


# Brought to lowest terms once, at the end: on the way that would cost more than it saves.
def sum_of_fractions(fractions):
    above = 0
    below = 1
    for part in fractions:
        above = above * part[1] + part[0] * below
        below = below * part[1]
    return lowest_terms(above, below)
