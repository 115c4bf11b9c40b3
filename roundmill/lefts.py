"""What is left over of a rounded answer, kept as a number itself."""

from roundmill.deeds import added, divided, multiplied, rooted
from roundmill.errors import Empty, NoLeft, NotFinite
from roundmill.flags import GREAT
from roundmill.parts import check_bits, kind, worth, worth_fraction
from roundmill.rounding import rounded
from roundmill.terms import product_term
from roundmill.totals import total
from roundmill.ways import way_of

NOT_FINITE = ("endless", "none")


def check_finite(size, numbers):
    check_bits(size, numbers)
    for bits in numbers:
        if kind(size, bits) in NOT_FINITE:
            raise NotFinite("only finite numbers have a left")


# The bits of an answer that a left may stand beside.
def kept_answer(size, pair):
    if kind(size, pair[0]) in NOT_FINITE or pair[1] & GREAT != 0:
        raise NoLeft("the answer is not finite or was too great")
    return pair[0]


def minus(term):
    return (1 - term[0], term[1], term[2])


def left_of(size, terms):
    value = worth_fraction(total(terms))
    pair = rounded(size, "even", value[0], value[1], value[2])
    # Rounding raises a flag just where the exact left is no number of the size.
    if pair[1] != 0:
        raise NoLeft("the exact left is no number of this size")
    return pair[0]


def sum_left(size, a, b):
    check_finite(size, [a, b])
    answer = kept_answer(size, added(size, "even", a, b))
    terms = [worth(size, a), worth(size, b), minus(worth(size, answer))]
    return (answer, left_of(size, terms))


def product_left(size, way, a, b):
    way_of(way)
    check_finite(size, [a, b])
    answer = kept_answer(size, multiplied(size, way, a, b))
    terms = [product_term(size, a, b), minus(worth(size, answer))]
    return (answer, left_of(size, terms))


def quotient_left(size, way, a, b):
    way_of(way)
    check_finite(size, [a, b])
    answer = kept_answer(size, divided(size, way, a, b))
    terms = [worth(size, a), minus(product_term(size, answer, b))]
    return (answer, left_of(size, terms))


def root_left(size, way, a):
    way_of(way)
    check_finite(size, [a])
    answer = kept_answer(size, rooted(size, way, a))
    terms = [worth(size, a), minus(product_term(size, answer, answer))]
    return (answer, left_of(size, terms))


def kept_turn(size, xs):
    if len(xs) == 0:
        raise Empty("an empty row has no steps")
    check_finite(size, xs)
    steps = [xs[0]]
    lefts = []
    for bits in xs[1:]:
        pair = sum_left(size, steps[-1], bits)
        steps.append(pair[0])
        lefts.append(pair[1])
    return (steps, lefts)
