"""Deeds with numbers: each answer is the exact answer rounded once."""

from roundmill.cutting import root_cut
from roundmill.flags import POLE, WRONG
from roundmill.parts import fraction, kind, negated, parted, signed
from roundmill.rounding import rounded, settled
from roundmill.sizes import endless, no_number
from roundmill.terms import any_none, settled_sum
from roundmill.ways import way_of


def added(size, way, a, b):
    return settled_sum(size, way, [], [a, b])


def taken(size, way, a, b):
    # An unknown way goes ahead of what is no bits, which negated refuses.
    way_of(way)
    return settled_sum(size, way, [], [a, negated(size, b)])


def multiplied(size, way, a, b):
    return settled_sum(size, way, [(a, b)], [])


def fused(size, way, a, b, c):
    return settled_sum(size, way, [(a, b)], [c])


def divided(size, way, a, b):
    way_of(way)
    if any_none(size, [a, b]):
        return (no_number(size), 0)
    over = kind(size, a)
    under = kind(size, b)
    if over == under and over in ("nought", "endless"):
        return (no_number(size), WRONG)
    sign = parted(size, a)[0] ^ parted(size, b)[0]
    if over == "endless":
        return (signed(size, sign, endless(size)), 0)
    if over == "nought" or under == "endless":
        return (signed(size, sign, 0), 0)
    if under == "nought":
        return (signed(size, sign, endless(size)), POLE)
    return quotient(size, way, fraction(size, a), fraction(size, b))


def quotient(size, way, over, under):
    return rounded(size, way, over[0] ^ under[0], over[1] * under[2], over[2] * under[1])


def rooted(size, way, a):
    way_of(way)
    if any_none(size, [a]):
        return (no_number(size), 0)
    if kind(size, a) == "nought" or a == endless(size):
        return (a, 0)
    if parted(size, a)[0] == 1:
        return (no_number(size), WRONG)
    value = fraction(size, a)
    parts = root_cut(size, value[1], value[2])
    return settled(size, way, 0, parts[0], parts[1], parts[2])
