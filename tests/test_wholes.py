import unittest
from fractions import Fraction

import oracle
from roundmill.errors import NoBits, NoFraction, NoWay
from roundmill.wholes import whole_of, wholed
from oracle import WAYS
from drawn import (
    DOUBLE, HALF, HUGE, LEAST, LITTLE, MANY_FIGURES, QUAD, SIZES, SMALL_SIZES, drawn_bits, no_bits,
)


class WholeOf(unittest.TestCase):
    def test_halves(self):
        # (top over 2): for each way the whole number above nought and below nought
        told = {
            1: {"even": (0, 0), "away": (1, 1), "nought": (0, 0), "up": (1, 0), "down": (0, 1)},
            3: {"even": (2, 2), "away": (2, 2), "nought": (1, 1), "up": (2, 1), "down": (1, 2)},
            5: {"even": (2, 2), "away": (3, 3), "nought": (2, 2), "up": (3, 2), "down": (2, 3)},
        }
        for top, ways in told.items():
            for way, signs in ways.items():
                for sign in (0, 1):
                    self.assertEqual(whole_of(way, sign, top, 2), signs[sign], (top, way, sign))
                    self.assertEqual(whole_of(way, sign, top * 7, 14), signs[sign])

    def test_every_fraction_of_little_numbers(self):
        for way in WAYS:
            for sign in (0, 1):
                for top in range(60):
                    for bottom in range(1, 25):
                        expected = oracle.whole_taken(way, sign, Fraction(top, bottom))
                        self.assertEqual(whole_of(way, sign, top, bottom), expected)

    def test_many_figures(self):
        for sign in (0, 1):
            self.assertTrue(whole_of("even", sign, HUGE + 1, 1) == HUGE + 1)
            self.assertTrue(whole_of("even", sign, 2 * HUGE + 1, 2) == HUGE)
            self.assertTrue(whole_of("away", sign, 2 * HUGE + 1, 2) == HUGE + 1)
            self.assertEqual(whole_of("even", sign, HUGE + 1, 2 * HUGE), 1)
            self.assertEqual(whole_of("even", sign, HUGE - 1, 2 * HUGE), 0)
            self.assertEqual(whole_of("up", sign, 1, HUGE), 1 - sign)
            self.assertEqual(whole_of("down", sign, 1, HUGE), sign)

    def test_refusals(self):
        for top, bottom in ((-1, 1), (1, 0), (0, 0), (1, -1), (-HUGE, HUGE)):
            for way in WAYS:
                with self.assertRaises(NoFraction):
                    whole_of(way, 0, top, bottom)
            with self.assertRaises(NoWay):
                whole_of("odd", 0, top, bottom)
        with self.assertRaises(NoWay):
            whole_of("odd", 0, 1, 2)
        self.assertEqual(whole_of(way="up", sign=0, top=1, bottom=2), 1)


class Wholed(unittest.TestCase):
    def test_all_numbers_of_little_sizes(self):
        for size in SMALL_SIZES + ((2, 6), (4, 5), HALF):
            for way in WAYS:
                for bits in oracle.every_bits(size)[::1 if size != HALF else 97]:
                    told = wholed(size, way, bits)
                    self.assertEqual(told, oracle.wholed(size, way, bits), (size, way, bits))

    def test_drawn(self):
        for size in SIZES:
            for way in WAYS:
                for bits in drawn_bits(size, 30):
                    self.assertEqual(wholed(size, way, bits), oracle.wholed(size, way, bits))

    def test_halves(self):
        # 0.5, 1.5 and 2.5, and their negatives
        told = {
            0x3800: {"even": (0, 0x8000), "away": (0x3C00, 0xBC00), "nought": (0, 0x8000),
                     "up": (0x3C00, 0x8000), "down": (0, 0xBC00)},
            0x3E00: {"even": (0x4000, 0xC000), "away": (0x4000, 0xC000), "nought": (0x3C00, 0xBC00),
                     "up": (0x4000, 0xBC00), "down": (0x3C00, 0xC000)},
            0x4100: {"even": (0x4000, 0xC000), "away": (0x4200, 0xC200), "nought": (0x4000, 0xC000),
                     "up": (0x4200, 0xC000), "down": (0x4000, 0xC200)},
        }
        for code, ways in told.items():
            for way, answers in ways.items():
                self.assertEqual(wholed(HALF, way, code), (answers[0], 1), (code, way))
                self.assertEqual(wholed(HALF, way, code + 0x8000), (answers[1], 1), (code, way))

    def test_below_one_nothing_is_small(self):
        for size in SIZES:
            sign = oracle.sign_bit(size)
            one = oracle.bias(size) * 2 ** size[1]
            for code in (1, 2 ** size[1] - 1):
                self.assertEqual(wholed(size, "nought", code), (0, 1))
                self.assertEqual(wholed(size, "nought", sign + code), (sign, 1))
                self.assertEqual(wholed(size, "up", code), (one, 1))
                self.assertEqual(wholed(size, "up", sign + code), (sign, 1))
                self.assertEqual(wholed(size, "down", code), (0, 1))
                self.assertEqual(wholed(size, "down", sign + code), (sign + one, 1))

    def test_whole_numbers_stay_without_a_flag(self):
        for way in WAYS:
            for bits in (0x3C00, 0xBC00, 0x4000, 0x4200, 0x6400, 0x6401, 0x7BFF, 0xFBFF):
                self.assertEqual(wholed(HALF, way, bits), (bits, 0))

    def test_noughts_endless_ones_and_nones(self):
        for size in SIZES:
            sign = oracle.sign_bit(size)
            end = oracle.end_code(size)
            for way in WAYS:
                for bits in (0, sign, end, end + sign):
                    self.assertEqual(wholed(size, way, bits), (bits, 0))
                for code in (end + 1, end + 2 ** size[1] - 1):
                    for bits in (code, code + sign):
                        self.assertEqual(wholed(size, way, bits), (oracle.plain_none(size), 0))

    def test_the_top_is_reached(self):
        # With E = 2 and more than one figure the greatest number is a hair below T, which is 4.
        for size in (MANY_FIGURES, (2, 2), (2, 5)):
            sign = oracle.sign_bit(size)
            end = oracle.end_code(size)
            three = 2 ** (size[1] + 1) + 2 ** (size[1] - 1)
            last = end - 1
            for way in ("even", "away"):
                self.assertEqual(wholed(size, way, last), (end, 5))
                self.assertEqual(wholed(size, way, last + sign), (end + sign, 5))
            self.assertEqual(wholed(size, "nought", last), (three, 1))
            self.assertEqual(wholed(size, "up", last), (end, 5))
            self.assertEqual(wholed(size, "up", last + sign), (three + sign, 1))
            self.assertEqual(wholed(size, "down", last), (three, 1))
            self.assertEqual(wholed(size, "down", last + sign), (end + sign, 5))

    def test_refusals(self):
        for size in (LEAST, LITTLE, DOUBLE, QUAD):
            for bits in no_bits(size):
                with self.assertRaises(NoBits):
                    wholed(size, "even", bits)
                with self.assertRaises(NoWay):
                    wholed(size, "odd", bits)
            for bits in (0, 1, oracle.end_code(size), oracle.plain_none(size)):
                with self.assertRaises(NoWay):
                    wholed(size, "odd", bits)
        self.assertEqual(wholed(size=HALF, way="up", bits=1), (0x3C00, 1))


if __name__ == "__main__":
    unittest.main()
