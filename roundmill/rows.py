"""Rows of numbers: summed at once with one rounding, or added one by one."""

from roundmill.deeds import added
from roundmill.errors import Empty, Unlike
from roundmill.parts import check_bits
from roundmill.terms import settled_sum
from roundmill.ways import way_of


def gathered(size, way, xs, ys):
    way_of(way)
    if len(xs) != len(ys):
        raise Unlike("the two rows are not of one length")
    return settled_sum(size, way, list(zip(xs, ys)), [])


def summed(size, way, xs):
    return settled_sum(size, way, [], xs)


def in_turn(size, way, xs):
    way_of(way)
    check_bits(size, xs)
    steps = []
    flags = 0
    for bits in xs:
        if len(steps) == 0:
            steps.append(bits)
        else:
            pair = added(size, way, steps[-1], bits)
            steps.append(pair[0])
            flags = flags | pair[1]
    return (steps, flags)


def in_halves(size, way, xs):
    way_of(way)
    if len(xs) == 0:
        raise Empty("an empty row has no halves")
    check_bits(size, xs)
    return halves_added(size, way, xs)


def halves_added(size, way, xs):
    if len(xs) == 1:
        return (xs[0], 0)
    middle = len(xs) // 2
    first = halves_added(size, way, xs[:middle])
    second = halves_added(size, way, xs[middle:])
    pair = added(size, way, first[0], second[0])
    return (pair[0], first[1] | second[1] | pair[1])
