import unittest
from fractions import Fraction

import oracle
from roundmill.changing import changed, from_whole, to_whole
from roundmill.errors import NoBits, NotFinite, NoWay
from oracle import WAYS
from drawn import (
    BRAIN, DOUBLE, HALF, HUGE, LEAST, LITTLE, LONG_FIELD, MANY_FIGURES, QUAD, SINGLE, SIZES,
    drawn_bits, no_bits,
)

GREAT_WHOLE = 2 ** 40000


def expected_change(size, other, way, bits):
    """Point 28."""
    sign = oracle.sign_of(size, bits)
    if oracle.is_none(size, bits):
        return oracle.plain_none(other), 0
    if oracle.is_endless(size, bits):
        return oracle.signed(other, sign, oracle.end_code(other)), 0
    if oracle.is_nought(size, bits):
        return oracle.signed(other, sign, 0), 0
    return oracle.rounded(other, way, oracle.value(size, bits))


class Changed(unittest.TestCase):
    def test_all_numbers_of_little_sizes(self):
        sizes = (LEAST, LITTLE, (2, 4), (4, 1), (5, 2))
        for size in sizes:
            for other in sizes:
                for way in WAYS:
                    for bits in oracle.every_bits(size):
                        told = changed(size, other, way, bits)
                        self.assertIs(type(told), tuple)
                        self.assertEqual(told, expected_change(size, other, way, bits))

    def test_drawn_numbers(self):
        for size in SIZES:
            for other in (LEAST, HALF, BRAIN, DOUBLE, LONG_FIELD):
                for way in WAYS:
                    for bits in drawn_bits(size, 6):
                        told = changed(size, other, way, bits)
                        self.assertEqual(told, expected_change(size, other, way, bits))

    def test_to_a_wider_size_and_back(self):
        for size, wider in ((LEAST, LITTLE), (HALF, SINGLE), (SINGLE, DOUBLE), (DOUBLE, QUAD),
                            (BRAIN, SINGLE), (QUAD, QUAD), (HALF, HALF)):
            end = oracle.end_code(size)
            for bits in drawn_bits(size, 30) + [0, oracle.sign_bit(size), 1, end - 1, end]:
                if oracle.is_none(size, bits):
                    continue
                for way in WAYS:
                    there, flags = changed(size, wider, way, bits)
                    self.assertEqual(flags, 0)
                    self.assertEqual(changed(wider, size, way, there), (bits, 0))

    def test_known(self):
        third = 0x3FD5555555555555
        self.assertEqual(changed(DOUBLE, HALF, "even", third), (0x3555, 1))
        self.assertEqual(changed(DOUBLE, HALF, "up", third), (0x3556, 1))
        self.assertEqual(changed(DOUBLE, SINGLE, "even", third), (0x3EAAAAAB, 1))
        self.assertEqual(changed(DOUBLE, HALF, "even", 0x7FEFFFFFFFFFFFFF), (0x7C00, 5))
        self.assertEqual(changed(DOUBLE, HALF, "nought", 0x7FEFFFFFFFFFFFFF), (0x7BFF, 5))
        self.assertEqual(changed(DOUBLE, HALF, "even", 1), (0, 3))
        self.assertEqual(changed(DOUBLE, HALF, "down", 2 ** 63 + 1), (0x8001, 3))

    def test_nones(self):
        for size in SIZES:
            end = oracle.end_code(size)
            for other in SIZES:
                for code in (end + 1, oracle.plain_none(size), end + 2 ** size[1] - 1):
                    for bits in (code, code + oracle.sign_bit(size)):
                        told = changed(size, other, "even", bits)
                        self.assertEqual(told, (oracle.plain_none(other), 0))

    def test_noughts_and_endless_ones(self):
        for size in SIZES:
            for other in SIZES:
                for way in WAYS:
                    self.assertEqual(changed(size, other, way, 0), (0, 0))
                    told = changed(size, other, way, oracle.sign_bit(size))
                    self.assertEqual(told, (oracle.sign_bit(other), 0))
                    end, other_end = oracle.end_code(size), oracle.end_code(other)
                    self.assertEqual(changed(size, other, way, end), (other_end, 0))
                    told = changed(size, other, way, end + oracle.sign_bit(size))
                    self.assertEqual(told, (other_end + oracle.sign_bit(other), 0))

    def test_refusals(self):
        for size, other in ((HALF, DOUBLE), (DOUBLE, HALF)):
            for bits in no_bits(size):
                with self.assertRaises(NoBits):
                    changed(size, other, "even", bits)
                with self.assertRaises(NoWay):
                    changed(size, other, "odd", bits)
            for bits in (0, 1, oracle.end_code(size), oracle.plain_none(size)):
                with self.assertRaises(NoWay):
                    changed(size, other, "odd", bits)
        # What is no bits of the size may well be bits of the other.
        with self.assertRaises(NoBits):
            changed(HALF, DOUBLE, "even", 2 ** 16)
        told = changed(size=HALF, other=SINGLE, way="up", bits=0x3C00)
        self.assertEqual(told, (0x3F800000, 0))


class FromWhole(unittest.TestCase):
    def test_little_numbers(self):
        for size in (LEAST, LITTLE, HALF, MANY_FIGURES):
            for number in list(range(-40, 0)) + list(range(1, 40)):
                for way in WAYS:
                    told = from_whole(size, way, number)
                    self.assertIs(type(told), tuple)
                    self.assertEqual(told, oracle.rounded(size, way, Fraction(number)))

    def test_nought(self):
        for size in SIZES:
            for way in WAYS:
                self.assertEqual(from_whole(size, way, 0), (0, 0))

    def test_known(self):
        self.assertEqual(from_whole(HALF, "even", 2049), (0x6800, 1))
        self.assertEqual(from_whole(HALF, "even", -2051), (0xE802, 1))
        self.assertEqual(from_whole(HALF, "up", -2051), (0xE801, 1))
        self.assertEqual(from_whole(HALF, "even", 65519), (0x7BFF, 1))
        self.assertEqual(from_whole(HALF, "even", 65520), (0x7C00, 5))
        self.assertEqual(from_whole(HALF, "nought", -65536), (0xFBFF, 5))
        self.assertEqual(from_whole(DOUBLE, "even", 2 ** 53 + 1), (0x4340000000000000, 1))

    def test_the_top_and_far_beyond(self):
        for size in SIZES:
            end = oracle.end_code(size)
            sign = oracle.sign_bit(size)
            top = int(oracle.code_value(size, end))
            for number in (top, top + 1, GREAT_WHOLE, GREAT_WHOLE - 1):
                for way, above, below in (("even", end, end), ("away", end, end),
                                          ("nought", end - 1, end - 1), ("up", end, end - 1),
                                          ("down", end - 1, end)):
                    self.assertEqual(from_whole(size, way, number), (above, 5))
                    self.assertEqual(from_whole(size, way, -number), (sign + below, 5))

    def test_no_way(self):
        for number in (0, 1, -1, GREAT_WHOLE):
            with self.assertRaises(NoWay):
                from_whole(HALF, "odd", number)
        self.assertEqual(from_whole(size=HALF, way="up", number=1), (0x3C00, 0))


class ToWhole(unittest.TestCase):
    def test_all_finite_numbers_of_little_sizes(self):
        for size in (LEAST, LITTLE, (2, 4), (4, 3), (5, 2), (2, 6)):
            for bits in oracle.finite_numbers(size):
                value = oracle.value(size, bits)
                sign = oracle.sign_of(size, bits)
                for way in WAYS:
                    whole = oracle.whole_taken(way, sign, abs(value))
                    whole = -whole if sign else whole
                    told = to_whole(size, way, bits)
                    self.assertIs(type(told), tuple)
                    self.assertIs(type(told[0]), int)
                    self.assertEqual(told, (whole, int(whole != value)), (size, way, bits))

    def test_halves(self):
        # 0.5, 1.5 and 2.5, and their negatives
        told = {
            0x3800: {"even": (0, 0), "away": (1, -1), "nought": (0, 0), "up": (1, 0), "down": (0, -1)},
            0x3E00: {"even": (2, -2), "away": (2, -2), "nought": (1, -1), "up": (2, -1), "down": (1, -2)},
            0x4100: {"even": (2, -2), "away": (3, -3), "nought": (2, -2), "up": (3, -2), "down": (2, -3)},
        }
        for code, ways in told.items():
            for way, wholes in ways.items():
                self.assertEqual(to_whole(HALF, way, code), (wholes[0], 1))
                self.assertEqual(to_whole(HALF, way, code + 0x8000), (wholes[1], 1))

    def test_before_it_is_put_into_the_size(self):
        # A hair below T, which is 4 here: 4 is told, though it is no number of the size.
        last = oracle.end_code(MANY_FIGURES) - 1
        self.assertEqual(to_whole(MANY_FIGURES, "even", last), (4, 1))
        self.assertEqual(to_whole(MANY_FIGURES, "down", last + 2 ** 114), (-4, 1))
        self.assertEqual(to_whole(MANY_FIGURES, "nought", last), (3, 1))

    def test_noughts_and_wholes(self):
        for size in SIZES:
            for way in WAYS:
                self.assertEqual(to_whole(size, way, 0), (0, 0))
                self.assertEqual(to_whole(size, way, oracle.sign_bit(size)), (0, 0))
                one = oracle.bias(size) * 2 ** size[1]
                self.assertEqual(to_whole(size, way, one), (1, 0))
        whole = (2 ** 113 - 1) * 2 ** 16271
        self.assertTrue(to_whole(QUAD, "even", (0x7FFF << 112) - 1) == (whole, 0))
        self.assertTrue(to_whole(QUAD, "even", (0xFFFF << 112) - 1) == (-whole, 0))

    def test_refusals(self):
        for size in SIZES:
            end = oracle.end_code(size)
            for code in (end, end + 1, oracle.plain_none(size), end + 2 ** size[1] - 1):
                for bits in (code, code + oracle.sign_bit(size)):
                    with self.assertRaises(NotFinite):
                        to_whole(size, "even", bits)
                    with self.assertRaises(NoWay):
                        to_whole(size, "odd", bits)
                    with self.assertRaises(NoBits):
                        to_whole(size, "even", bits + 2 * oracle.sign_bit(size))
            for bits in no_bits(size):
                with self.assertRaises(NoBits):
                    to_whole(size, "even", bits)
                with self.assertRaises(NoWay):
                    to_whole(size, "odd", bits)
            with self.assertRaises(NoWay):
                to_whole(size, "odd", 0)
        self.assertEqual(to_whole(size=HALF, way="up", bits=0x3C00), (1, 0))


class There(unittest.TestCase):
    def test_and_back(self):
        for size in (SINGLE, DOUBLE, QUAD):
            for number in (1, -1, 7, -1000, 2 ** size[1] - 1, -(2 ** size[1] + 1)):
                for way in WAYS:
                    bits, flags = from_whole(size, way, number)
                    self.assertEqual(flags, 0)
                    self.assertEqual(to_whole(size, way, bits), (number, 0))

    def test_numbers_of_many_figures_stay_out_of_errors(self):
        with self.assertRaises(NoBits) as caught:
            to_whole(HALF, "even", HUGE)
        self.assertIsInstance(str(caught.exception), str)


if __name__ == "__main__":
    unittest.main()
