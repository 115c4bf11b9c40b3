"""Rounding: of the two neighbours of an exact number, the one that the way takes."""

from roundmill.cutting import cut
from roundmill.flags import GREAT, INEXACT, SMALL
from roundmill.parts import signed
from roundmill.sizes import endless, low
from roundmill.ways import way_of


def settled(size, way, sign, whole, power, rest):
    chosen = way_of(way)
    # Codes go on without a gap from one power to the next, so that one more step is one more code.
    code = ((power - low(size)) << size[1]) + whole
    end = endless(size)
    if code >= end:
        taken = end if chosen.bursts(sign) else end - 1
        return (signed(size, sign, taken), INEXACT + GREAT)
    if rest == 0:
        return (signed(size, sign, code), 0)
    taken = code + 1 if chosen.grows(sign, code & 1 == 1, rest) else code
    return (signed(size, sign, taken), lost_flags(size, code, taken))


# Of a number that lies behind a code and was not met: the flags, by the code that was taken.
def lost_flags(size, code, taken):
    if taken == endless(size):
        return INEXACT + GREAT
    faint = code < 1 << size[1]
    return INEXACT + SMALL if faint else INEXACT


def rounded(size, way, sign, top, bottom):
    # An unknown way goes ahead of a fraction that is none.
    way_of(way)
    parts = cut(size, top, bottom)
    return settled(size, way, sign, parts[0], parts[1], parts[2])
