"""Numbers rounded to whole numbers."""

from roundmill.cutting import check_fraction, rest_of
from roundmill.flags import INEXACT
from roundmill.parts import fraction, kind
from roundmill.rounding import rounded
from roundmill.sizes import no_number
from roundmill.ways import way_of


def whole_of(way, sign, top, bottom):
    chosen = way_of(way)
    check_fraction(top, bottom)
    whole = top // bottom
    rest = rest_of(top % bottom, bottom)
    return whole + 1 if chosen.grows(sign, whole & 1 == 1, rest) else whole


def wholed(size, way, bits):
    way_of(way)
    found = kind(size, bits)
    if found == "none":
        return (no_number(size), 0)
    if found in ("nought", "endless"):
        return (bits, 0)
    value = fraction(size, bits)
    whole = whole_of(way, value[0], value[1], value[2])
    pair = rounded(size, way, value[0], whole, 1)
    # Every whole number next to a number of the size is one itself, or T: nothing else is lost here.
    lost = INEXACT if whole * value[2] != value[1] else 0
    return (pair[0], pair[1] | lost)
