"""Terms of a sum, numbers and products of two numbers, and such a sum rounded once."""

from roundmill.flags import WRONG
from roundmill.parts import kind, parted, signed, worth
from roundmill.sizes import endless, no_number
from roundmill.totals import settled_total
from roundmill.ways import way_of


def any_none(size, numbers):
    # All kinds are asked ahead of the answer, so that what is no bits is refused at whatever place.
    kinds = [kind(size, bits) for bits in numbers]
    return "none" in kinds


# A finite number's term is its worth; an endless one has the whole None in its place.
def number_term(size, bits):
    if kind(size, bits) == "endless":
        return (parted(size, bits)[0], None, 0)
    return worth(size, bits)


def product_wrong(size, a, b):
    kinds = (kind(size, a), kind(size, b))
    return "nought" in kinds and "endless" in kinds


def product_term(size, a, b):
    left = number_term(size, a)
    right = number_term(size, b)
    sign = left[0] ^ right[0]
    if left[1] is None or right[1] is None:
        return (sign, None, 0)
    return (sign, left[1] * right[1], left[2] + right[2])


def settled_terms(size, way, terms):
    signs = [term[0] for term in terms if term[1] is None]
    if 0 in signs and 1 in signs:
        return (no_number(size), WRONG)
    if len(signs) > 0:
        return (signed(size, signs[0], endless(size)), 0)
    return settled_total(size, way, terms)


# The sum of the products of pairs and of single numbers: added, multiplied, fused and the sums of
# rows are all of this form.
def settled_sum(size, way, pairs, singles):
    way_of(way)
    numbers = list(singles)
    for pair in pairs:
        numbers.extend(pair)
    if any_none(size, numbers):
        return (no_number(size), 0)
    if any([product_wrong(size, pair[0], pair[1]) for pair in pairs]):
        return (no_number(size), WRONG)
    products = [product_term(size, pair[0], pair[1]) for pair in pairs]
    return settled_terms(size, way, products + [number_term(size, bits) for bits in singles])
