import random
import unittest
from fractions import Fraction

import oracle
from roundmill.errors import Empty, MillError, NoBits, NoLeft, NotFinite, NoWay
from roundmill.lefts import kept_turn, product_left, quotient_left, root_left, sum_left
from oracle import WAYS
from drawn import DOUBLE, HALF, LEAST, LITTLE, QUAD, SIZES, drawn_bits, no_bits

# HALF's own
ONE, TWO, THREE, MINUS_ONE = 0x3C00, 0x4000, 0x4200, 0xBC00
NOUGHT, MINUS_NOUGHT, ENDLESS, MINUS_ENDLESS, NONE = 0x0000, 0x8000, 0x7C00, 0xFC00, 0x7E00
GREATEST, MINUS_GREATEST = 0x7BFF, 0xFBFF


def bits_of_value(size, x):
    """The finite number of a value (the positive nought for 0), or None where there is none."""
    if x == 0:
        return 0
    bits, flags = oracle.rounded(size, "nought", x)
    return bits if flags == 0 else None


def told(call):
    """What a call tells, or the class it is refused with."""
    try:
        return call()
    except MillError as refusal:
        return type(refusal)


def expected(size, numbers, answer, left_value):
    """Point 21; answer() is the pair of the deed, left_value(its value) the exact left."""
    if not all(oracle.is_finite(size, bits) for bits in numbers):
        return NotFinite
    bits, flags = answer()
    if not oracle.is_finite(size, bits) or flags & oracle.GREAT:
        return NoLeft
    left = bits_of_value(size, left_value(oracle.value(size, bits)))
    return NoLeft if left is None else (bits, left)


def expected_sum(size, a, b):
    return expected(size, (a, b), lambda: oracle.added(size, "even", a, b),
                    lambda v: oracle.value(size, a) + oracle.value(size, b) - v)


def expected_product(size, way, a, b):
    return expected(size, (a, b), lambda: oracle.multiplied(size, way, a, b),
                    lambda v: oracle.value(size, a) * oracle.value(size, b) - v)


def expected_quotient(size, way, a, b):
    return expected(size, (a, b), lambda: oracle.divided(size, way, a, b),
                    lambda v: oracle.value(size, a) - v * oracle.value(size, b))


def expected_root(size, way, a):
    return expected(size, (a,), lambda: oracle.rooted(size, way, a),
                    lambda v: oracle.value(size, a) - v * v)


class Lefts(unittest.TestCase):
    def pair_holds(self, size, ways, a, b):
        self.assertEqual(told(lambda: sum_left(size, a, b)), expected_sum(size, a, b), (size, a, b))
        for way in ways:
            self.assertEqual(told(lambda: product_left(size, way, a, b)),
                             expected_product(size, way, a, b), (size, way, a, b))
            self.assertEqual(told(lambda: quotient_left(size, way, a, b)),
                             expected_quotient(size, way, a, b), (size, way, a, b))

    def test_all_pairs_of_little_sizes(self):
        for size in (LEAST, (2, 2), (3, 2)):
            for a in oracle.every_bits(size):
                for b in oracle.every_bits(size):
                    self.pair_holds(size, WAYS, a, b)

    def test_drawn_pairs(self):
        for size in (LITTLE, HALF, DOUBLE, QUAD):
            drawn = drawn_bits(size, 40)
            for place in range(len(drawn) - 1):
                self.pair_holds(size, ("even", "up"), drawn[place], drawn[place + 1])

    def test_drawn_pairs_near_one(self):
        source = random.Random("near one")
        for size in (HALF, DOUBLE):
            one = oracle.bias(size) * 2 ** size[1]
            for turn in range(60):
                a, b = (one + source.randrange(-2 ** (size[1] + 1), 2 ** (size[1] + 1))
                        for place in range(2))
                self.pair_holds(size, WAYS, a, b)
                pair = product_left(size, "even", a, b)
                value = oracle.value(size, a) * oracle.value(size, b)
                self.assertEqual(oracle.value(size, pair[0]) + oracle.value(size, pair[1]), value)

    def test_all_roots_of_little_sizes(self):
        for size in (LEAST, LITTLE, (2, 4), (4, 3), (5, 2)):
            for way in WAYS:
                for a in oracle.every_bits(size):
                    self.assertEqual(told(lambda: root_left(size, way, a)),
                                     expected_root(size, way, a), (size, way, a))

    def test_known(self):
        self.assertEqual(sum_left(HALF, ONE, 0x0001), (ONE, 0x0001))
        self.assertEqual(sum_left(HALF, ONE, 0x1000), (ONE, 0x1000))
        self.assertEqual(sum_left(HALF, 0x3C01, 0x1000), (0x3C02, 0x9000))
        self.assertEqual(product_left(HALF, "even", 0x3C01, 0x3C01), (0x3C02, 0x0010))
        self.assertEqual(product_left(HALF, "up", 0x3C01, 0x3C01), (0x3C03, 0x93FE))
        self.assertEqual(quotient_left(HALF, "even", ONE, THREE), (0x3555, 0x0C00))
        self.assertEqual(root_left(HALF, "even", TWO), (0x3DA8, expected_root(HALF, "even", TWO)[1]))

    def test_a_left_of_nought_is_the_positive_one(self):
        for way in WAYS:
            for a in (NOUGHT, MINUS_NOUGHT, ONE, MINUS_ONE):
                self.assertEqual(product_left(HALF, way, a, ONE), (a, 0))
                self.assertEqual(quotient_left(HALF, way, a, ONE), (a, 0))
            self.assertEqual(root_left(HALF, way, MINUS_NOUGHT), (MINUS_NOUGHT, 0))
            self.assertEqual(root_left(HALF, way, 0x4400), (TWO, 0))
        self.assertEqual(sum_left(HALF, MINUS_NOUGHT, MINUS_NOUGHT), (MINUS_NOUGHT, 0))
        self.assertEqual(sum_left(HALF, MINUS_ONE, ONE), (NOUGHT, 0))
        self.assertEqual(sum_left(HALF, MINUS_ONE, MINUS_ONE), (0xC000, 0))

    def test_answers_are_tuples(self):
        for pair in (sum_left(HALF, ONE, ONE), product_left(HALF, "even", ONE, ONE),
                     quotient_left(HALF, "even", ONE, ONE), root_left(HALF, "even", ONE)):
            self.assertIs(type(pair), tuple)


class NoLefts(unittest.TestCase):
    def refused(self, refusal, call):
        with self.assertRaises(refusal):
            call()

    def test_answers_that_are_not_finite(self):
        self.refused(NoLeft, lambda: sum_left(HALF, GREATEST, GREATEST))
        for way in WAYS:
            self.refused(NoLeft, lambda: quotient_left(HALF, way, ONE, NOUGHT))
            self.refused(NoLeft, lambda: quotient_left(HALF, way, NOUGHT, NOUGHT))
            self.refused(NoLeft, lambda: root_left(HALF, way, MINUS_ONE))
            self.refused(NoLeft, lambda: root_left(HALF, way, 0x8001))

    def test_finite_answers_that_raised_great(self):
        for way in WAYS:
            self.refused(NoLeft, lambda: product_left(HALF, way, GREATEST, GREATEST))
            self.refused(NoLeft, lambda: product_left(HALF, way, GREATEST, MINUS_GREATEST))
            self.refused(NoLeft, lambda: quotient_left(HALF, way, GREATEST, 0x0001))
        # Twice the greatest would leave the greatest itself over, but great was raised.
        self.refused(NoLeft, lambda: product_left(HALF, "nought", GREATEST, TWO))
        self.refused(NoLeft, lambda: quotient_left(HALF, "down", GREATEST, 0x3800))

    def test_an_inexact_answer_next_to_the_top_may_have_a_left(self):
        pair = sum_left(HALF, GREATEST, ONE)
        self.assertEqual(pair, (GREATEST, ONE))

    def test_lefts_that_are_no_numbers_of_the_size(self):
        for way in WAYS:
            self.refused(NoLeft, lambda: product_left(HALF, way, 0x0001, 0x0001))
            self.refused(NoLeft, lambda: product_left(HALF, way, 0x0401, 0x0401))


class Order(unittest.TestCase):
    def calls(self, way, numbers):
        a, b = numbers
        return (lambda: product_left(HALF, way, a, b), lambda: quotient_left(HALF, way, a, b))

    def test_no_bits_at_whatever_place_goes_ahead_of_not_finite(self):
        for wrong in no_bits(HALF):
            for other in (ONE, ENDLESS, NONE, wrong):
                for numbers in ((wrong, other), (other, wrong)):
                    with self.assertRaises(NoBits):
                        sum_left(HALF, *numbers)
                    with self.assertRaises(NoBits):
                        kept_turn(HALF, list(numbers))
                    for call in self.calls("even", numbers):
                        with self.assertRaises(NoBits):
                            call()
            with self.assertRaises(NoBits):
                root_left(HALF, "even", wrong)

    def test_not_finite_goes_ahead_of_no_left(self):
        for size in SIZES:
            end = oracle.end_code(size)
            sign = oracle.sign_bit(size)
            for other in (end, end + sign, end + 1, end + sign + 1, oracle.plain_none(size)):
                for numbers in ((other, 0), (0, other), (other, other), (end - 1, other)):
                    with self.assertRaises(NotFinite):
                        sum_left(size, *numbers)
                    for way in WAYS:
                        with self.assertRaises(NotFinite):
                            product_left(size, way, *numbers)
                        with self.assertRaises(NotFinite):
                            quotient_left(size, way, *numbers)
                with self.assertRaises(NotFinite):
                    root_left(size, "even", other)

    def test_no_way_goes_first(self):
        for way in ("", "Even", "odd"):
            for numbers in ((ONE, ONE), (2 ** 16, ONE), (ENDLESS, NONE), (GREATEST, -1)):
                for call in self.calls(way, numbers):
                    with self.assertRaises(NoWay):
                        call()
                with self.assertRaises(NoWay):
                    root_left(HALF, way, numbers[0])

    def test_arguments_by_name(self):
        self.assertEqual(sum_left(size=HALF, a=ONE, b=ONE), (TWO, 0))
        self.assertEqual(product_left(size=HALF, way="up", a=ONE, b=ONE), (ONE, 0))
        self.assertEqual(quotient_left(size=HALF, way="up", a=ONE, b=ONE), (ONE, 0))
        self.assertEqual(root_left(size=HALF, way="up", a=ONE), (ONE, 0))
        self.assertEqual(kept_turn(size=HALF, xs=[ONE]), ([ONE], []))


class KeptTurn(unittest.TestCase):
    def test_one_number(self):
        for bits in (ONE, NOUGHT, MINUS_NOUGHT, GREATEST, 0x8001):
            self.assertEqual(kept_turn(HALF, [bits]), ([bits], []))

    def test_known(self):
        pair = kept_turn(HALF, [ONE, 0x1000, 0x1000, MINUS_ONE])
        self.assertEqual(pair, ([ONE, ONE, ONE, NOUGHT], [0x1000, 0x1000, NOUGHT]))
        self.assertIs(type(pair), tuple)
        self.assertEqual([type(part) for part in pair], [list, list])

    def test_steps_and_lefts_together_are_the_exact_sum(self):
        source = random.Random("kept turn")
        for size in (LITTLE, HALF, DOUBLE):
            codes = [bits for bits in drawn_bits(size)
                     if oracle.code_of(size, bits) < oracle.end_code(size) * 3 // 4]
            for turn in range(40):
                row = [source.choice(codes) for place in range(source.randrange(1, 10))]
                steps, lefts = kept_turn(size, row)
                self.assertEqual(len(steps), len(row))
                self.assertEqual(len(lefts), len(row) - 1)
                self.assertEqual(steps[0], row[0])
                for place in range(1, len(row)):
                    pair = expected_sum(size, steps[place - 1], row[place])
                    self.assertEqual((steps[place], lefts[place - 1]), pair)
                exact = sum((oracle.value(size, bits) for bits in row), Fraction(0))
                kept = oracle.value(size, steps[-1])
                kept += sum((oracle.value(size, bits) for bits in lefts), Fraction(0))
                self.assertEqual(kept, exact)

    def test_a_row_whose_sum_goes_endless(self):
        for row in ([GREATEST, GREATEST], [ONE, GREATEST, GREATEST, MINUS_GREATEST]):
            with self.assertRaises(NoLeft):
                kept_turn(HALF, row)

    def test_an_empty_row(self):
        with self.assertRaises(Empty):
            kept_turn(HALF, [])

    def test_the_order_of_refusals(self):
        wrong = 2 ** 16
        for row in ([GREATEST, GREATEST, wrong], [ENDLESS, wrong], [NONE, ONE, -1], [wrong]):
            with self.assertRaises(NoBits):
                kept_turn(HALF, row)
        for row in ([GREATEST, GREATEST, ENDLESS], [ONE, NONE], [MINUS_ENDLESS], [NONE], [0xFFFF]):
            with self.assertRaises(NotFinite):
                kept_turn(HALF, row)

    def test_lists_stay_apart(self):
        row = [ONE, TWO]
        steps, lefts = kept_turn(HALF, row)
        steps.append(ONE)
        lefts.append(ONE)
        steps[0] = NONE
        self.assertEqual(row, [ONE, TWO])
        self.assertEqual(kept_turn(HALF, row), ([ONE, THREE], [NOUGHT]))


if __name__ == "__main__":
    unittest.main()
