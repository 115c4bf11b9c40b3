"""Sizes (E, F): the width of the exponent's field and the count of the figures kept."""

from roundmill.errors import NoSize

LEAST_EXPONENT = 2
GREATEST_EXPONENT = 15
LEAST_FIGURES = 1
GREATEST_FIGURES = 112


def size_of(exponent, figures):
    if exponent < LEAST_EXPONENT or exponent > GREATEST_EXPONENT:
        raise NoSize("the width of the exponent's field is from 2 to 15")
    if figures < LEAST_FIGURES or figures > GREATEST_FIGURES:
        raise NoSize("the count of the figures is from 1 to 112")
    return (exponent, figures)


def width(size):
    return size[0] + size[1] + 1


def bias(size):
    return (1 << (size[0] - 1)) - 1


def low(size):
    return 1 - bias(size) - size[1]


def sign_bit(size):
    return 1 << (size[0] + size[1])


# The field that no finite number has: endless ones and nones share it.
def last_field(size):
    return (1 << size[0]) - 1


def endless(size):
    return last_field(size) << size[1]


def no_number(size):
    return endless(size) + (1 << (size[1] - 1))
