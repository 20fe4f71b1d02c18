"""Fractions: tuples (top, bottom) of two whole numbers in lowest numbers, the bottom from 1 on."""

from countveil.kinds import is_list_of, is_tuple_of, is_whole

NOUGHT = (0, 1)
ONE = (1, 1)


def greatest_divisor(one, other):
    """The greatest number that divides both; 0 where both are 0."""
    while other != 0:
        one, other = other, one % other
    return abs(one)


def fraction(top, bottom):
    """The fraction that is top over bottom, which may be below 0, but not 0."""
    divisor = greatest_divisor(top, bottom)
    if bottom < 0:
        divisor = -divisor
    return (top // divisor, bottom // divisor)


def is_fraction(thing):
    """Whether it is a fraction."""
    if not is_tuple_of(thing, 2):
        return False
    top, bottom = thing
    if not is_whole(top) or not is_whole(bottom) or bottom < 1:
        return False
    return greatest_divisor(top, bottom) == 1


def are_fractions(thing, many):
    """Whether it is a list of so many fractions."""
    return is_list_of(thing, many) and all(is_fraction(each) for each in thing)


def sum_of(fractions):
    """What all fractions of a list come to."""
    top, bottom = NOUGHT
    for more, parts in fractions:
        top, bottom = fraction(top * parts + more * bottom, bottom * parts)
    return (top, bottom)


def mixed(fractions, numbers):
    """What the whole numbers, each times its fraction, come to."""
    return sum_of([fraction(top * number, bottom) for (top, bottom), number in zip(fractions, numbers)])


def less(one, other):
    """The one fraction less the other."""
    return mixed([one, other], [1, -1])


def times(one, other):
    """The one fraction times the other."""
    return fraction(one[0] * other[0], one[1] * other[1])


def mean_of(fractions):
    """The mean of a list of one or more fractions."""
    return times(sum_of(fractions), (1, len(fractions)))
