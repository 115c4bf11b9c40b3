"""Numbers rounded to whole numbers."""

from roundmill.cutting import check_fraction, rest_of
from roundmill.flags import INEXACT
from roundmill.parts import fraction, kind
from roundmill.rounding import rounded
from roundmill.sizes import no_number
from roundmill.ways import way_of


def whole_of(way, sign, top, bottom):
    chosen = way_of(way)
    check_fraction(top, bottom)
    whole = top // bottom
    rest = rest_of(top % bottom, bottom)
    return whole + 1 if chosen.grows(sign, whole & 1 == 1, rest) else whole


# The whole number taken for a value (sign, top, bottom), and the flag inexact where it is another one.
def whole_and_flags(way, value):
    whole = whole_of(way, value[0], value[1], value[2])
    return (whole, INEXACT if whole * value[2] != value[1] else 0)


def wholed(size, way, bits):
    way_of(way)
    found = kind(size, bits)
    if found == "none":
        return (no_number(size), 0)
    if found in ("nought", "endless"):
        return (bits, 0)
    value = fraction(size, bits)
    taken = whole_and_flags(way, value)
    pair = rounded(size, way, value[0], taken[0], 1)
    # The whole number is one of the size's own or T, so that rounding it raises great beside inexact.
    return (pair[0], pair[1] | taken[1])
