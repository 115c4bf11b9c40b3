"""The document's words over exact fractions, for tests: nothing here draws from the package."""

import functools
from fractions import Fraction

WAYS = ("even", "away", "nought", "up", "down")
INEXACT, SMALL, GREAT, POLE, WRONG = 1, 2, 4, 8, 16


def every_bits(size):
    return range(2 ** (size[0] + size[1] + 1))


def bias(size):
    return 2 ** (size[0] - 1) - 1


def low(size):
    return 1 - bias(size) - size[1]


def sign_bit(size):
    return 2 ** (size[0] + size[1])


def end_code(size):
    """The code of the endless ones, whose value, by point 5's words, is T."""
    return (2 ** size[0] - 1) * 2 ** size[1]


def plain_none(size):
    return end_code(size) + 2 ** (size[1] - 1)


def sign_of(size, bits):
    return bits // sign_bit(size)


def code_of(size, bits):
    return bits % sign_bit(size)


def is_none(size, bits):
    return code_of(size, bits) > end_code(size)


def is_endless(size, bits):
    return code_of(size, bits) == end_code(size)


def is_finite(size, bits):
    return code_of(size, bits) < end_code(size)


def is_nought(size, bits):
    return code_of(size, bits) == 0


@functools.lru_cache(maxsize=20000)
def code_value(size, code):
    field, figures = divmod(code, 2 ** size[1])
    if field == 0:
        return figures * Fraction(2) ** low(size)
    return (2 ** size[1] + figures) * Fraction(2) ** (low(size) + field - 1)


def value(size, bits):
    told = code_value(size, code_of(size, bits))
    return -told if sign_of(size, bits) else told


def signed(size, sign, code):
    return sign * sign_bit(size) + code


def numbers(size):
    """All bits of a little size but the nones."""
    return [bits for bits in every_bits(size) if not is_none(size, bits)]


def finite_numbers(size):
    return [bits for bits in every_bits(size) if is_finite(size, bits)]


def order(left, right):
    return (left > right) - (left < right)


def lower_code(size, against):
    """The greatest code whose value is not more than |x|; against(v) is 1, 0, -1 as |x| is to v."""
    least, most = 0, end_code(size)
    while most - least > 1:
        middle = (least + most) // 2
        if against(code_value(size, middle)) >= 0:
            least = middle
        else:
            most = middle
    return least


def rounded_against(size, way, sign, against):
    """Point 11."""
    end = end_code(size)
    if against(code_value(size, end)) >= 0:
        taken = {
            "even": end, "away": end, "nought": end - 1,
            "up": end - 1 if sign else end, "down": end if sign else end - 1,
        }[way]
        return signed(size, sign, taken), INEXACT + GREAT
    lower = lower_code(size, against)
    if against(code_value(size, lower)) == 0:
        return signed(size, sign, lower), 0
    greater = lower + 1
    nearer = against((code_value(size, lower) + code_value(size, greater)) / 2)
    taken = {
        "even": {-1: lower, 0: lower if lower % 2 == 0 else greater, 1: greater}[nearer],
        "away": {-1: lower, 0: greater, 1: greater}[nearer],
        "nought": lower,
        "up": lower if sign else greater,
        "down": greater if sign else lower,
    }[way]
    flags = INEXACT
    if taken == end:
        flags += GREAT
    if against(Fraction(2) ** (1 - bias(size))) < 0:
        flags += SMALL
    return signed(size, sign, taken), flags


def rounded(size, way, x):
    """Point 11 for a fraction that is not nought."""
    assert x != 0
    return rounded_against(size, way, int(x < 0), lambda v: order(abs(x), v))


def rounded_root(size, way, x):
    assert x > 0
    return rounded_against(size, way, 0, lambda v: order(x, v * v))


def sum_of(size, way, terms):
    """Point 15: terms are pairs (sign, value), the value None for an endless one."""
    endless_signs = {sign for sign, v in terms if v is None}
    if len(endless_signs) == 2:
        return plain_none(size), WRONG
    if endless_signs:
        return signed(size, endless_signs.pop(), end_code(size)), 0
    exact = sum(v for sign, v in terms)
    if exact != 0:
        return rounded(size, way, exact)
    signs = {sign for sign, v in terms}
    if not signs:
        return 0, 0
    sign = signs.pop() if len(signs) == 1 else int(way == "down")
    return signed(size, sign, 0), 0


def term(size, bits):
    return sign_of(size, bits), None if is_endless(size, bits) else value(size, bits)


def product_wrong(size, a, b):
    return ((is_nought(size, a) and is_endless(size, b))
            or (is_endless(size, a) and is_nought(size, b)))


def product(size, a, b):
    sign = int(sign_of(size, a) != sign_of(size, b))
    if is_endless(size, a) or is_endless(size, b):
        return sign, None
    return sign, value(size, a) * value(size, b)


def gathered(size, way, pairs, singles=()):
    """Points 14 to 16 and 19: products of pairs and single numbers summed."""
    everything = [bits for pair in pairs for bits in pair] + list(singles)
    if any(is_none(size, bits) for bits in everything):
        return plain_none(size), 0
    if any(product_wrong(size, a, b) for a, b in pairs):
        return plain_none(size), WRONG
    terms = [product(size, a, b) for a, b in pairs] + [term(size, bits) for bits in singles]
    return sum_of(size, way, terms)


def added(size, way, a, b):
    return gathered(size, way, [], [a, b])


def taken(size, way, a, b):
    return gathered(size, way, [], [a, b ^ sign_bit(size)])


def multiplied(size, way, a, b):
    return gathered(size, way, [(a, b)])


def fused(size, way, a, b, c):
    return gathered(size, way, [(a, b)], [c])


def divided(size, way, a, b):
    """Points 14 and 17."""
    if is_none(size, a) or is_none(size, b):
        return plain_none(size), 0
    if is_nought(size, a) and is_nought(size, b) or is_endless(size, a) and is_endless(size, b):
        return plain_none(size), WRONG
    sign = int(sign_of(size, a) != sign_of(size, b))
    if is_endless(size, a):
        return signed(size, sign, end_code(size)), 0
    if is_endless(size, b) or is_nought(size, a):
        return signed(size, sign, 0), 0
    if is_nought(size, b):
        return signed(size, sign, end_code(size)), POLE
    return rounded(size, way, value(size, a) / value(size, b))


def rooted(size, way, a):
    if is_none(size, a):
        return plain_none(size), 0
    if is_nought(size, a) or a == end_code(size):
        return a, 0
    if sign_of(size, a):
        return plain_none(size), WRONG
    return rounded_root(size, way, value(size, a))


def whole_taken(way, sign, x):
    """Point 18: the whole number taken for x, not below 0, with the sign."""
    lower = x.numerator // x.denominator
    if x == lower:
        return lower
    middle = order(x, lower + Fraction(1, 2))
    even = {-1: lower, 0: lower + lower % 2, 1: lower + 1}[middle]
    away = {-1: lower, 0: lower + 1, 1: lower + 1}[middle]
    return {
        "even": even, "away": away, "nought": lower,
        "up": lower + 1 - sign, "down": lower + sign,
    }[way]


def wholed(size, way, a):
    if is_none(size, a):
        return plain_none(size), 0
    if is_nought(size, a) or is_endless(size, a):
        return a, 0
    sign = sign_of(size, a)
    whole = whole_taken(way, sign, abs(value(size, a)))
    if whole == 0:
        return signed(size, sign, 0), INEXACT
    bits, flags = rounded(size, way, Fraction(-whole if sign else whole))
    flags &= GREAT
    if not is_finite(size, bits) or value(size, bits) != value(size, a):
        flags |= INEXACT
    return bits, flags
