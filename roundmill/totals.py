"""Totals: exact sums of worths, and such a sum rounded."""

from roundmill.parts import signed, worth_fraction
from roundmill.rounding import rounded
from roundmill.ways import way_of


def total(terms):
    power = min([term[2] for term in terms], default=0)
    whole = 0
    for term in terms:
        part = term[1] << (term[2] - power)
        whole = whole - part if term[0] == 1 else whole + part
    return (1 if whole < 0 else 0, abs(whole), power)


def nought_sign(way, signs):
    way_of(way)
    if 0 in signs and 1 in signs:
        return 1 if way == "down" else 0
    return 1 if 1 in signs else 0


def settled_total(size, way, terms):
    value = worth_fraction(total(terms))
    if value[1] == 0:
        sign = nought_sign(way, [term[0] for term in terms])
        return (signed(size, sign, 0), 0)
    return rounded(size, way, value[0], value[1], value[2])
