"""The order of numbers: their ranks, and the neighbours of a number."""

from roundmill.errors import NoRank
from roundmill.parts import kind, parted
from roundmill.sizes import endless, sign_bit


def rank(size, bits):
    if kind(size, bits) == "none":
        raise NoRank("a none has no rank")
    code = bits % sign_bit(size)
    return -code if parted(size, bits)[0] == 1 else code


def compared(size, a, b):
    kinds = (kind(size, a), kind(size, b))
    if "none" in kinds:
        return "apart"
    first = rank(size, a)
    second = rank(size, b)
    if first < second:
        return "less"
    return "same" if first == second else "more"


def above(size, bits):
    place = rank(size, bits)
    if place == endless(size):
        return bits
    # A rank of 0 that is reached from below is the negative nought's.
    if place < 0:
        return sign_bit(size) - (place + 1)
    return place + 1


def below(size, bits):
    place = rank(size, bits)
    if place == -endless(size):
        return bits
    if place > 0:
        return place - 1
    return sign_bit(size) - (place - 1)
