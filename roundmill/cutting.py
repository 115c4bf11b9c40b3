"""Cuts: a fraction or a root as so many steps of a size, and what is left over of it."""

from roundmill.errors import NoFraction
from roundmill.sizes import low


def check_fraction(top, bottom):
    if top < 0 or bottom < 1:
        raise NoFraction("a top is not below 0 and a bottom not below 1")


# top / bottom over 2 ** power, again as a top and a bottom.
def scaled(top, bottom, power):
    if power >= 0:
        return (top, bottom << power)
    return (top << -power, bottom)


# The least k with top / bottom less than 2 ** k, for a top above 0.
def height(top, bottom):
    # The lengths alone leave two choices, k and k + 1.
    guess = top.bit_length() - bottom.bit_length()
    parts = scaled(top, bottom, guess)
    return guess if parts[0] < parts[1] else guess + 1


# The rest, by what is left over and by a number that stands to the middle as the cut one does.
def rest_by_middle(over, number, middle):
    if over == 0:
        return 0
    if number < middle:
        return 1
    return 2 if number == middle else 3


# The left-over is doubled, so that the half need not be a whole number.
def rest_of(over, step):
    return rest_by_middle(over, 2 * over, step)


def cut(size, top, bottom):
    check_fraction(top, bottom)
    if top == 0:
        return (0, low(size), 0)
    power = max(low(size), height(top, bottom) - size[1] - 1)
    parts = scaled(top, bottom, power)
    return (parts[0] // parts[1], power, rest_of(parts[0] % parts[1], parts[1]))


def whole_root(number):
    if number < 0:
        raise NoFraction("a number below 0 has no root")
    # Newton's steps come down to the root from a guess that is not below it.
    root = 1 << ((number.bit_length() + 1) // 2)
    while root * root > number:
        root = (root + number // root) // 2
    return root


def root_rest(top, bottom, root):
    # The middle, root + 1 / 2, is held against the exact root by their squares, both times 4.
    middle = (2 * root + 1) * (2 * root + 1) * bottom
    return rest_by_middle(top - root * root * bottom, 4 * top, middle)


def root_cut(size, top, bottom):
    check_fraction(top, bottom)
    if top == 0:
        return (0, low(size), 0)
    # The root is less than 2 ** k just where the fraction is less than 2 ** (2 * k).
    root_height = (height(top, bottom) + 1) // 2
    power = max(low(size), root_height - size[1] - 1)
    parts = scaled(top, bottom, 2 * power)
    root = whole_root(parts[0] // parts[1])
    return (root, power, root_rest(parts[0], parts[1], root))
