"""Texts written: the shortest spelling that reads back, and its layout."""

from roundmill.cutting import height
from roundmill.parts import fraction, kind, worth
from roundmill.reading import tenfold
from roundmill.rounding import rounded
from roundmill.sizes import endless


def reads_back(size, bits, figures, place):
    sign = worth(size, bits)[0]
    value = tenfold(figures, 1, place)
    return rounded(size, "even", sign, value[0], value[1])[0] == bits


# The least k with top / bottom less than 10 ** k, for a top above 0.
def ten_height(top, bottom):
    # The power of two, times the logarithm of 2, is never more than one beyond the logarithm asked
    # for: so the guess is never too great.
    guess = height(top, bottom) * 30103 // 100000
    while not below_ten_to(top, bottom, guess):
        guess = guess + 1
    return guess


def below_ten_to(top, bottom, number):
    parts = tenfold(top, bottom, -number)
    return parts[0] < parts[1]


def shortest(size, bits):
    value = fraction(size, bits)
    if value[1] == 0:
        return (value[0], 0, 0)
    place = ten_height(value[1], value[2])
    figures = None
    # All values of one more figure lie at the next place, the two beside the number nearest to it.
    while figures is None:
        place = place - 1
        parts = tenfold(value[1], value[2], -place)
        figures = nearest_back(size, bits, place, parts)
    return bare_spelling(value[0], figures, place)


# Of the whole numbers beside the fraction parts, the nearest one that reads back, or None.
def nearest_back(size, bits, place, parts):
    lower = parts[0] // parts[1]
    double_over = 2 * (parts[0] % parts[1])
    greater_first = double_over > parts[1] or (double_over == parts[1] and lower & 1 == 1)
    choices = [lower + 1, lower] if greater_first else [lower, lower + 1]
    for figures in choices:
        if reads_back(size, bits, figures, place):
            return figures
    return None


def bare_spelling(sign, figures, place):
    while figures % 10 == 0:
        figures = figures // 10
        place = place + 1
    return (sign, figures, place)


def laid(sign, figures, place):
    ahead = "-" if sign == 1 else ""
    if figures == 0:
        return ahead + "0"
    written = str(figures)
    top_place = place + len(written) - 1
    if -5 <= top_place <= 20:
        return ahead + laid_in_full(written, place, top_place)
    return ahead + laid_short(written, top_place)


def laid_in_full(written, place, top_place):
    if place >= 0:
        return written + "0" * place
    if top_place >= 0:
        return written[:top_place + 1] + "." + written[top_place + 1:]
    return "0." + "0" * (-top_place - 1) + written


def laid_short(written, top_place):
    behind = "." + written[1:] if len(written) > 1 else ""
    return written[0] + behind + "e" + str(top_place)


def shown(size, bits):
    found = kind(size, bits)
    if found == "none":
        return "none"
    if found == "endless":
        return "-endless" if bits > endless(size) else "endless"
    spelling = shortest(size, bits)
    return laid(spelling[0], spelling[1], spelling[2])
