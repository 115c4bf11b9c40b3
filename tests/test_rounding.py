import random
import unittest
from fractions import Fraction

import oracle
from roundmill.cutting import cut
from roundmill.errors import NoFraction, NoWay
from roundmill.rounding import rounded, settled
from oracle import WAYS
from drawn import DOUBLE, HALF, HUGE, LEAST, LITTLE, QUAD, SINGLE, SIZES, SMALL_SIZES, drawn_bits

HAIR = Fraction(1, HUGE)


class RoundingTest(unittest.TestCase):
    def holds(self, size, x):
        """rounded and settled against point 11, by each way and both signs, for x above nought."""
        for way in WAYS:
            for each in (0, 1):
                expected = oracle.rounded(size, way, -x if each else x)
                told = rounded(size, way, each, x.numerator, x.denominator)
                self.assertIs(type(told), tuple)
                self.assertEqual(told, expected, (size, way, each))
                whole, power, rest = cut(size, x.numerator, x.denominator)
                told = settled(size, way, each, whole, power, rest)
                self.assertIs(type(told), tuple)
                self.assertEqual(told, expected, (size, way, each))

    def told(self, size, x, answers):
        """answers: for each way the (code, flags) above nought and below nought."""
        for way, signs in answers.items():
            for sign in (0, 1):
                code, flags = signs[sign]
                told = rounded(size, way, sign, x.numerator, x.denominator)
                self.assertEqual(told, (sign * oracle.sign_bit(size) + code, flags), (way, sign))


def both(code, flags):
    return ((code, flags), (code, flags))


class Points(RoundingTest):
    def test_a_finite_number_s_own_value(self):
        for size in SMALL_SIZES:
            for code in range(1, oracle.end_code(size)):
                x = oracle.code_value(size, code)
                self.told(size, x, {way: both(code, 0) for way in WAYS})
        for size in SIZES:
            for code in [1, oracle.end_code(size) - 1] + drawn_bits(size, 20):
                code = code % oracle.sign_bit(size)
                if 0 < code < oracle.end_code(size):
                    x = oracle.code_value(size, code)
                    self.told(size, x, {way: both(code, 0) for way in WAYS})

    def test_between_two_plain_numbers(self):
        # 1 and 1 + 2 ** -10 are the codes 0x3C00 and 0x3C01.
        low, high = (0x3C00, 1), (0x3C01, 1)
        step = Fraction(1, 1024)
        sides = {"nought": (low, low), "up": (high, low), "down": (low, high)}
        self.told(HALF, 1 + step / 4, {"even": (low, low), "away": (low, low), **sides})
        self.told(HALF, 1 + step / 2, {"even": (low, low), "away": (high, high), **sides})
        self.told(HALF, 1 + step / 2 + HAIR, {"even": (high, high), "away": (high, high), **sides})
        self.told(HALF, 1 + step / 2 - HAIR, {"even": (low, low), "away": (low, low), **sides})
        self.told(HALF, 1 + HAIR, {"even": (low, low), "away": (low, low), **sides})
        self.told(HALF, 1 + step - HAIR, {"even": (high, high), "away": (high, high), **sides})

    def test_midway_from_an_odd_code(self):
        low, high = (0x3C01, 1), (0x3C02, 1)
        x = 1 + Fraction(3, 2048)
        self.told(HALF, x, {
            "even": (high, high), "away": (high, high), "nought": (low, low),
            "up": (high, low), "down": (low, high),
        })

    def test_midway_into_the_next_power(self):
        # 2 - 2 ** -10 and 2 are the codes 0x3FFF and 0x4000.
        low, high = (0x3FFF, 1), (0x4000, 1)
        x = 2 - Fraction(1, 2048)
        self.told(HALF, x, {
            "even": (high, high), "away": (high, high), "nought": (low, low),
            "up": (high, low), "down": (low, high),
        })

    def test_below_the_least_faint_number(self):
        for size in SIZES:
            step = oracle.code_value(size, 1)
            low, high = (0, 3), (1, 3)
            sides = {"nought": (low, low), "up": (high, low), "down": (low, high)}
            less = {"even": (low, low), "away": (low, low), **sides}
            more = {"even": (high, high), "away": (high, high), **sides}
            self.told(size, step / 2, {"even": (low, low), "away": (high, high), **sides})
            self.told(size, step / 2 - step * HAIR, less)
            self.told(size, step * HAIR, less)
            self.told(size, step / 2 + step * HAIR, more)
            self.told(size, step - step * HAIR, more)

    def test_between_the_greatest_faint_and_the_least_plain(self):
        for size in SIZES:
            first = 2 ** size[1]
            step = oracle.code_value(size, 1)
            low, high = (first - 1, 3), (first, 3)
            sides = {"nought": (low, low), "up": (high, low), "down": (low, high)}
            plain = oracle.code_value(size, first)
            tall = {"even": (high, high), "away": (high, high), **sides}
            self.told(size, plain - step / 2, tall)
            self.told(size, plain - step * HAIR, tall)
            self.told(size, plain - step / 2 - step * HAIR,
                      {"even": (low, low), "away": (low, low), **sides})
            self.told(size, plain, {way: both(first, 0) for way in WAYS})

    def test_just_above_the_least_plain_nothing_is_small(self):
        for size in SIZES:
            first = 2 ** size[1]
            plain = oracle.code_value(size, first)
            low, high = (first, 1), (first + 1, 1)
            x = plain + oracle.code_value(size, 1) * HAIR
            self.told(size, x, {
                "even": (low, low), "away": (low, low), "nought": (low, low),
                "up": (high, low), "down": (low, high),
            })

    def test_between_the_greatest_and_the_top(self):
        for size in SIZES:
            end = oracle.end_code(size)
            top = oracle.code_value(size, end)
            last = oracle.code_value(size, end - 1)
            step = top - last
            low, high = (end - 1, 1), (end, 5)
            sides = {"nought": (low, low), "up": (high, low), "down": (low, high)}
            less = {"even": (low, low), "away": (low, low), **sides}
            more = {"even": (high, high), "away": (high, high), **sides}
            self.told(size, last + step * HAIR, less)
            self.told(size, last + step / 2 - step * HAIR, less)
            self.told(size, last + step / 2, more)
            self.told(size, last + step / 2 + step * HAIR, more)
            self.told(size, top - step * HAIR, more)

    def test_the_top_and_beyond(self):
        for size in SIZES:
            end = oracle.end_code(size)
            top = oracle.code_value(size, end)
            low, high = (end - 1, 5), (end, 5)
            for x in (top, top * (1 + HAIR), top * 3 / 2, top * 2, top * HUGE, Fraction(2) ** 65000):
                self.told(size, x, {
                    "even": (high, high), "away": (high, high), "nought": (low, low),
                    "up": (high, low), "down": (low, high),
                })

    def test_a_top_of_nought(self):
        for size in SIZES:
            sign = oracle.sign_bit(size)
            for way in WAYS:
                for bottom in (1, 3, HUGE):
                    self.assertEqual(rounded(size, way, 0, 0, bottom), (0, 0))
                    self.assertEqual(rounded(size, way, 1, 0, bottom), (sign, 0))
                self.assertEqual(settled(size, way, 0, 0, oracle.low(size), 0), (0, 0))
                self.assertEqual(settled(size, way, 1, 0, oracle.low(size), 0), (sign, 0))

    def test_settled_far_beyond(self):
        for size in SIZES:
            end = oracle.end_code(size)
            for rest in range(4):
                whole = 2 ** size[1]
                self.assertEqual(settled(size, "even", 0, whole, 70000, rest), (end, 5))
                self.assertEqual(settled(size, "down", 0, whole, 70000, rest), (end - 1, 5))


class Exact(RoundingTest):
    def test_all_codes_of_little_sizes_and_what_lies_between(self):
        for size in SMALL_SIZES:
            for code in range(oracle.end_code(size)):
                lower = oracle.code_value(size, code)
                step = oracle.code_value(size, code + 1) - lower
                for part in (Fraction(1, 1000), Fraction(1, 4), Fraction(1, 2) - HAIR, Fraction(1, 2),
                             Fraction(1, 2) + HAIR, Fraction(3, 4), Fraction(999, 1000), 1):
                    self.holds(size, lower + part * step)

    def test_fractions_of_little_numbers(self):
        for size in (LEAST, LITTLE):
            for top in range(1, 60):
                for bottom in range(1, 30):
                    self.holds(size, Fraction(top, bottom))

    def test_fractions_that_are_not_shortened(self):
        for way in WAYS:
            told = rounded(HALF, way, 0, 1, 3)
            self.assertEqual(rounded(HALF, way, 0, HUGE, 3 * HUGE), told)
            self.assertEqual(rounded(HALF, way, 0, 7, 21), told)

    def test_drawn(self):
        source = random.Random("rounding")
        for size in (HALF, SINGLE, DOUBLE, QUAD):
            for turn in range(25):
                top = 1 + source.getrandbits(source.choice((10, 200, 2000)))
                bottom = 1 + source.getrandbits(source.choice((10, 200, 2000)))
                self.holds(size, Fraction(top, bottom))

    def test_the_machine_s_own_quotients(self):
        source = random.Random("quotients")
        for turn in range(300):
            top, bottom = source.randrange(1, 2 ** 90), source.randrange(1, 2 ** 90)
            bits, flags = rounded(DOUBLE, "even", 0, top, bottom)
            self.assertEqual(oracle.value(DOUBLE, bits), Fraction(top / bottom))


class Refusals(unittest.TestCase):
    def test_no_fraction(self):
        for way in WAYS:
            for sign in (0, 1):
                for top, bottom in ((-1, 1), (1, 0), (0, 0), (1, -1), (-HUGE, 1), (HUGE, -HUGE)):
                    with self.assertRaises(NoFraction):
                        rounded(HALF, way, sign, top, bottom)

    def test_no_way(self):
        for way in ("", "Even", "evens", "odd"):
            with self.assertRaises(NoWay):
                rounded(HALF, way, 0, 1, 3)
            with self.assertRaises(NoWay):
                rounded(HALF, way, 0, 0, 1)
            with self.assertRaises(NoWay):
                settled(HALF, way, 0, 1365, -12, 1)
            with self.assertRaises(NoWay):
                settled(HALF, way, 0, 0, -24, 0)
            with self.assertRaises(NoWay):
                settled(HALF, way, 0, 1024, 500, 0)

    def test_no_way_goes_ahead_of_no_fraction(self):
        for top, bottom in ((-1, 1), (1, 0)):
            with self.assertRaises(NoWay):
                rounded(HALF, "odd", 0, top, bottom)

    def test_arguments_by_name(self):
        self.assertEqual(rounded(size=HALF, way="up", sign=0, top=1, bottom=1), (0x3C00, 0))
        told = settled(size=HALF, way="up", sign=0, whole=1024, power=-10, rest=1)
        self.assertEqual(told, (0x3C01, 1))


if __name__ == "__main__":
    unittest.main()
