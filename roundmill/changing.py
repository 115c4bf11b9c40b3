"""Numbers changed: to another size, from a whole number and to a whole number."""

from roundmill.parts import fraction, kind, parted, signed
from roundmill.rounding import rounded
from roundmill.sizes import endless, no_number
from roundmill.ways import way_of
from roundmill.wholes import whole_and_flags


def changed(size, other, way, bits):
    way_of(way)
    found = kind(size, bits)
    if found == "none":
        return (no_number(other), 0)
    if found == "endless":
        return (signed(other, parted(size, bits)[0], endless(other)), 0)
    value = fraction(size, bits)
    return rounded(other, way, value[0], value[1], value[2])


def from_whole(size, way, number):
    return rounded(size, way, 1 if number < 0 else 0, abs(number), 1)


def to_whole(size, way, bits):
    way_of(way)
    value = fraction(size, bits)
    taken = whole_and_flags(way, value)
    return (-taken[0] if value[0] == 1 else taken[0], taken[1])
