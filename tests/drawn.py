"""Sizes and bits that several tests share; what is drawn is the same in every run."""

import random

LEAST = (2, 1)
LITTLE = (3, 3)
HALF = (5, 10)
BRAIN = (8, 7)
SINGLE = (8, 23)
DOUBLE = (11, 52)
QUAD = (15, 112)
LONG_FIELD = (15, 1)
MANY_FIGURES = (2, 112)

SIZES = (LEAST, LITTLE, HALF, BRAIN, SINGLE, DOUBLE, QUAD, LONG_FIELD, MANY_FIGURES)
SMALL_SIZES = (LEAST, LITTLE, (2, 4), (4, 1), (5, 2), (4, 3))

# Python writes no number of more than 4,300 figures.
HUGE = 10 ** 5000


def drawn_bits(size, count=200):
    source = random.Random(f"bits of {size}")
    return [source.randrange(2 ** (size[0] + size[1] + 1)) for turn in range(count)]


def no_bits(size):
    end = 2 ** (size[0] + size[1] + 1)
    return (-1, -2, -end, -end - 1, -HUGE, end, end + 1, 2 * end, end * end, HUGE)
