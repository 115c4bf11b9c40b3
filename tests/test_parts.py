import struct
import unittest
from fractions import Fraction

from roundmill.errors import NoBits, NoParts, NotFinite
from roundmill.parts import fraction, joined, kind, negated, parted, worth
from roundmill.sizes import endless, no_number
from drawn import (
    DOUBLE, HALF, HUGE, LEAST, QUAD, SINGLE, SIZES, SMALL_SIZES, drawn_bits, no_bits,
)


def told_parts(size, bits):
    """The parts by way of the bits as a text of noughts and ones."""
    text = bin(bits)[2:].zfill(size[0] + size[1] + 1)
    return (int(text[0], 2), int(text[1:size[0] + 1], 2), int(text[size[0] + 1:], 2))


def told_value(size, bits):
    """A finite number's value, by point 5."""
    sign, field, figures = told_parts(size, bits)
    step = 1 - (2 ** (size[0] - 1) - 1) - size[1]
    if field == 0:
        value = figures * Fraction(2) ** step
    else:
        value = (2 ** size[1] + figures) * Fraction(2) ** (step + field - 1)
    return -value if sign else value


def some_bits():
    for size in SMALL_SIZES:
        for bits in range(2 ** (size[0] + size[1] + 1)):
            yield size, bits
    for size in SIZES:
        for bits in drawn_bits(size):
            yield size, bits


def refused_bits():
    for size in SIZES:
        for bits in no_bits(size):
            yield size, bits


class Refusals(unittest.TestCase):
    def test_no_bits(self):
        for size, bits in refused_bits():
            for function in (parted, kind, worth, fraction, negated):
                with self.assertRaises(NoBits) as caught:
                    function(size, bits)
                self.assertIsInstance(str(caught.exception), str)

    def test_no_bits_goes_ahead_of_not_finite(self):
        # Looked at by their low bits alone, these would be endless ones and nones.
        for size in SIZES:
            end = 2 ** (size[0] + size[1] + 1)
            for code in (endless(size), no_number(size)):
                for bits in (code + end, code + 6 * end, code - end, code - 2 * end):
                    for function in (worth, fraction):
                        with self.assertRaises(NoBits):
                            function(size, bits)

    def test_the_last_bits_are_taken(self):
        for size in SIZES:
            last = 2 ** (size[0] + size[1] + 1) - 1
            self.assertEqual(parted(size, last), (1, 2 ** size[0] - 1, 2 ** size[1] - 1))
            self.assertEqual(parted(size, 0), (0, 0, 0))

    def test_arguments_by_name(self):
        self.assertEqual(parted(size=HALF, bits=0xBC01), (1, 15, 1))
        self.assertEqual(joined(size=HALF, sign=1, field=15, figures=1), 0xBC01)
        self.assertEqual(kind(size=HALF, bits=0xBC01), "plain")
        self.assertEqual(worth(size=HALF, bits=0xBC01), (1, 1025, -10))
        self.assertEqual(fraction(size=HALF, bits=0xBC01), (1, 1025, 1024))
        self.assertEqual(negated(size=HALF, bits=0xBC01), 0x3C01)


class Parts(unittest.TestCase):
    def test_parted(self):
        for size, bits in some_bits():
            told = parted(size, bits)
            self.assertIs(type(told), tuple)
            self.assertEqual(told, told_parts(size, bits))

    def test_joined_is_the_way_back_from_parted(self):
        for size, bits in some_bits():
            sign, field, figures = parted(size, bits)
            self.assertEqual(joined(size, sign, field, figures), bits)

    def test_parted_is_the_way_back_from_joined(self):
        for size in SMALL_SIZES:
            for sign in (0, 1):
                for field in range(2 ** size[0]):
                    for figures in range(2 ** size[1]):
                        bits = joined(size, sign, field, figures)
                        self.assertEqual(parted(size, bits), (sign, field, figures))

    def test_known_parts(self):
        self.assertEqual(parted(SINGLE, 0xC0490FDB), (1, 128, 0x490FDB))
        self.assertEqual(joined(SINGLE, 1, 128, 0x490FDB), 0xC0490FDB)
        self.assertEqual(joined(LEAST, 1, 2, 1), 0b1101)
        self.assertEqual(joined(QUAD, 0, 0x3FFF, 0), 0x3FFF << 112)

    def test_parts_out_of_range(self):
        for size in SIZES:
            fields = 2 ** size[0]
            steps = 2 ** size[1]
            for sign in (-1, 2, 3, HUGE, -HUGE):
                self.refuse(size, sign, 0, 0)
                self.refuse(size, sign, fields - 1, steps - 1)
            for field in (-1, fields, fields + 1, 2 * fields, HUGE, -HUGE):
                self.refuse(size, 0, field, 0)
                self.refuse(size, 1, field, steps - 1)
            for figures in (-1, steps, steps + 1, 2 * steps, HUGE, -HUGE):
                self.refuse(size, 0, 0, figures)
                self.refuse(size, 1, fields - 1, figures)

    def test_all_parts_out_of_range(self):
        self.refuse(HALF, -1, -1, -1)
        self.refuse(HALF, 2, 32, 1024)
        self.refuse(HALF, HUGE, HUGE, HUGE)

    def refuse(self, size, sign, field, figures):
        with self.assertRaises(NoParts) as caught:
            joined(size, sign, field, figures)
        self.assertIsInstance(str(caught.exception), str)


class Kinds(unittest.TestCase):
    def expect(self, size, code, told):
        self.assertEqual(kind(size, code), told)
        self.assertEqual(kind(size, code + 2 ** (size[0] + size[1])), told)

    def test_edges(self):
        for size in SIZES:
            with self.subTest(size):
                steps = 2 ** size[1]
                last = (2 ** size[0] - 1) * steps
                self.expect(size, 0, "nought")
                self.expect(size, 1, "faint")
                self.expect(size, steps - 1, "faint")
                self.expect(size, steps, "plain")
                self.expect(size, last - 1, "plain")
                self.expect(size, last, "endless")
                self.expect(size, last + 1, "none")
                self.expect(size, last + steps // 2, "none")
                self.expect(size, last + steps - 1, "none")

    def test_every_number_of_the_least_size(self):
        kinds = ["nought", "faint", "plain", "plain", "plain", "plain", "endless", "none"]
        self.assertEqual([kind(LEAST, bits) for bits in range(16)], kinds + kinds)

    def test_counts_of_the_kinds(self):
        for size in SMALL_SIZES:
            found = [kind(size, bits) for bits in range(2 ** (size[0] + size[1] + 1))]
            steps = 2 ** size[1]
            self.assertEqual(found.count("nought"), 2)
            self.assertEqual(found.count("faint"), 2 * (steps - 1))
            self.assertEqual(found.count("plain"), 2 * (2 ** size[0] - 2) * steps)
            self.assertEqual(found.count("endless"), 2)
            self.assertEqual(found.count("none"), 2 * (steps - 1))

    def test_the_marked_bits(self):
        for size in SIZES:
            self.expect(size, endless(size), "endless")
            self.expect(size, no_number(size), "none")


class Worths(unittest.TestCase):
    def test_known_worths(self):
        self.assertEqual(worth(DOUBLE, 0), (0, 0, -1074))
        self.assertEqual(worth(DOUBLE, 2 ** 63), (1, 0, -1074))
        self.assertEqual(worth(DOUBLE, 1), (0, 1, -1074))
        self.assertEqual(worth(DOUBLE, 2 ** 52 - 1), (0, 2 ** 52 - 1, -1074))
        self.assertEqual(worth(DOUBLE, 2 ** 52), (0, 2 ** 52, -1074))
        self.assertEqual(worth(DOUBLE, 2 ** 53), (0, 2 ** 52, -1073))
        self.assertEqual(worth(DOUBLE, 0x7FEFFFFFFFFFFFFF), (0, 2 ** 53 - 1, 971))
        self.assertEqual(worth(DOUBLE, 0xBFF8000000000000), (1, 3 * 2 ** 51, -52))
        self.assertEqual(worth(QUAD, (0x7FFF << 112) - 1), (0, 2 ** 113 - 1, 16271))

    def test_powers_round_nought(self):
        for field, power in ((24, -1), (25, 0), (26, 1), (30, 5)):
            bits = joined(HALF, 0, field, 6)
            self.assertEqual(worth(HALF, bits), (0, 1030, power))

    def test_known_fractions(self):
        self.assertEqual(fraction(HALF, 0), (0, 0, 2 ** 24))
        self.assertEqual(fraction(HALF, 0x8000), (1, 0, 2 ** 24))
        self.assertEqual(fraction(HALF, 0x8002), (1, 2, 2 ** 24))
        self.assertEqual(fraction(HALF, 0x3C00), (0, 1024, 1024))
        self.assertEqual(fraction(HALF, joined(HALF, 1, 24, 6)), (1, 1030, 2))
        self.assertEqual(fraction(HALF, joined(HALF, 0, 25, 6)), (0, 1030, 1))
        self.assertEqual(fraction(HALF, joined(HALF, 1, 26, 6)), (1, 2060, 1))
        self.assertEqual(fraction(HALF, 0x7BFF), (0, 65504, 1))
        self.assertEqual(fraction(QUAD, 1), (0, 1, 2 ** 16494))
        greatest = (2 ** 113 - 1) * 2 ** 16271
        self.assertTrue(fraction(QUAD, (0x7FFF << 112) - 1) == (0, greatest, 1))

    def test_every_number_of_the_least_size(self):
        worths = [(0, -1), (1, -1), (2, -1), (3, -1), (2, 0), (3, 0)]
        for sign in (0, 1):
            for code, told in enumerate(worths):
                self.assertEqual(worth(LEAST, sign * 8 + code), (sign,) + told)

    def test_the_forms_and_the_value(self):
        for size, bits in some_bits():
            sign, field, figures = told_parts(size, bits)
            if field == 2 ** size[0] - 1:
                continue
            step = 1 - (2 ** (size[0] - 1) - 1) - size[1]
            whole = figures if field == 0 else figures + 2 ** size[1]
            power = step if field == 0 else step + field - 1
            self.assertIs(type(worth(size, bits)), tuple)
            self.assertTrue(worth(size, bits) == (sign, whole, power))
            top = whole * 2 ** power if power >= 0 else whole
            bottom = 1 if power >= 0 else 2 ** -power
            told = fraction(size, bits)
            self.assertIs(type(told), tuple)
            self.assertTrue(told == (sign, top, bottom))
            value = Fraction(top, bottom)
            self.assertTrue((-value if sign else value) == told_value(size, bits))

    def test_the_machine_s_own_values(self):
        for size, form in ((HALF, ">e"), (SINGLE, ">f"), (DOUBLE, ">d")):
            for bits in drawn_bits(size) + [0, 1, endless(size) - 1]:
                if kind(size, bits) in ("endless", "none"):
                    continue
                count = (size[0] + size[1] + 1) // 8
                value = struct.unpack(form, bits.to_bytes(count, "big"))[0]
                sign, top, bottom = fraction(size, bits)
                self.assertEqual((-1) ** sign * Fraction(top, bottom), Fraction(value))

    def test_not_finite(self):
        for size in SIZES:
            last = endless(size)
            for code in (last, last + 1, no_number(size), last + 2 ** size[1] - 1):
                for bits in (code, code + 2 ** (size[0] + size[1])):
                    for function in (worth, fraction):
                        with self.assertRaises(NotFinite):
                            function(size, bits)

    def test_the_greatest_finite_is_not_refused(self):
        for size in SIZES:
            whole = 2 ** (size[1] + 1) - 1
            self.assertEqual(worth(size, endless(size) - 1)[:2], (0, whole))


class Negated(unittest.TestCase):
    def test_the_other_sign_and_nothing_else(self):
        for size, bits in some_bits():
            other = negated(size, bits)
            sign, field, figures = told_parts(size, bits)
            self.assertEqual(told_parts(size, other), (1 - sign, field, figures))
            self.assertEqual(negated(size, other), bits)

    def test_each_kind(self):
        told = {
            0x0000: 0x8000, 0x0001: 0x8001, 0x03FF: 0x83FF, 0x0400: 0x8400, 0x7BFF: 0xFBFF,
            0x7C00: 0xFC00, 0x7C01: 0xFC01, 0x7E00: 0xFE00, 0x7FFF: 0xFFFF,
        }
        for positive, negative in told.items():
            self.assertEqual(negated(HALF, positive), negative)
            self.assertEqual(negated(HALF, negative), positive)


if __name__ == "__main__":
    unittest.main()
