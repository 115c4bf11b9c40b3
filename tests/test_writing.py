import random
import struct
import unittest
from decimal import Decimal
from fractions import Fraction

import oracle
from roundmill.errors import NoBits, NotFinite
from roundmill.reading import read
from roundmill.writing import laid, reads_back, shortest, shown
from drawn import (
    BRAIN, DOUBLE, HALF, LEAST, LITTLE, LONG_FIELD, MANY_FIGURES, QUAD, SINGLE, SIZES, SMALL_SIZES,
    drawn_bits, no_bits,
)


def ten(power):
    return Fraction(10) ** power


def ceiling(x):
    return -(-x.numerator // x.denominator)


def ends(size, code):
    """The middles to both neighbours: no value out of them reads back."""
    here = oracle.code_value(size, code)
    lower = oracle.code_value(size, code - 1)
    greater = oracle.code_value(size, code + 1)
    return (lower + here) / 2, (here + greater) / 2


def spellings(size, code, count):
    """All (f, p) of count figures, the last no nought, that read back the code."""
    low, high = ends(size, code)
    power = 0
    while ten(power) <= high:
        power += 1
    while ten(power) > low:
        power -= 1
    found = []
    # From 10 ** power, which is not more than low, to the last power that still reaches high.
    while ten(power) <= high:
        place = power - count + 1
        first = max(ceiling(low / ten(place)), 10 ** (count - 1))
        last = min(high // ten(place), 10 ** count - 1)
        for figures in range(first, last + 1):
            value = figures * ten(place)
            if figures % 10 and oracle.rounded(size, "even", value)[0] == code:
                found.append((figures, place))
        power += 1
    return found


def fewest(size, code):
    count = 1
    while not spellings(size, code, count):
        count += 1
    return spellings(size, code, count)


def by_the_document(size, code):
    """Point 25, over all values of the fewest figures."""
    value = oracle.code_value(size, code)
    found = fewest(size, code)
    least = min(abs(f * ten(p) - value) for f, p in found)
    near = [(f, p) for f, p in found if abs(f * ten(p) - value) == least]
    if len(near) == 1:
        return near[0]
    place = min(p for f, p in near)
    even = [(f, p) for f, p in near if f * 10 ** (p - place) % 2 == 0]
    assert len(near) == 2 and len(even) == 1
    return even[0]


def finite_codes(size, count=25):
    codes = [bits % oracle.sign_bit(size) for bits in drawn_bits(size, count)]
    return [code for code in codes if 0 < code < oracle.end_code(size)]


class Shortest(unittest.TestCase):
    def holds(self, size, code):
        told = shortest(size, code)
        self.assertIs(type(told), tuple)
        self.assertEqual(told, (0,) + by_the_document(size, code), (size, code))
        minus = shortest(size, code + oracle.sign_bit(size))
        self.assertEqual(minus, (1,) + told[1:])

    def test_all_numbers_of_little_sizes(self):
        for size in SMALL_SIZES + ((2, 2), (2, 6), (3, 5), (4, 5), (5, 4), (6, 1), (7, 1), (6, 3)):
            for code in range(1, oracle.end_code(size)):
                self.holds(size, code)

    def test_drawn_numbers_of_known_sizes(self):
        for size in (HALF, BRAIN, SINGLE, DOUBLE, MANY_FIGURES):
            for code in finite_codes(size):
                self.holds(size, code)

    def test_the_ends_of_the_range(self):
        for size in (HALF, BRAIN, SINGLE, DOUBLE):
            first = 2 ** size[1]
            end = oracle.end_code(size)
            for code in (1, 2, 3, first - 1, first, first + 1, end - 2, end - 1):
                self.holds(size, code)

    def test_powers_of_two(self):
        for size in (HALF, SINGLE, BRAIN):
            for field in range(1, 2 ** size[0] - 1, 1 if size == HALF else 7):
                self.holds(size, field * 2 ** size[1])
        for field in range(1, 2047, 61):
            self.holds(DOUBLE, field * 2 ** 52)

    def test_ties(self):
        # The even one of two as near: 0.7 and 0.8, 1.2 and 1.3, 1.7 and 1.8.
        self.assertEqual(shortest((4, 1), read((4, 1), "even", "0.75")[0]), (0, 8, -1))
        self.assertEqual(shortest((4, 2), read((4, 2), "even", "1.25")[0]), (0, 12, -1))
        self.assertEqual(shortest((4, 2), read((4, 2), "even", "-1.75")[0]), (1, 18, -1))
        self.assertEqual(shortest(SINGLE, read(SINGLE, "even", "2097152.25")[0]), (0, 20971522, -1))
        self.assertEqual(shortest(SINGLE, read(SINGLE, "even", "2097152.75")[0]), (0, 20971528, -1))

    def test_known(self):
        self.assertEqual(shortest(HALF, 0x7BFF), (0, 655, 2))
        self.assertEqual(shortest(HALF, 0x0001), (0, 6, -8))
        self.assertEqual(shortest(HALF, 0x3C00), (0, 1, 0))
        self.assertEqual(shortest(HALF, 0x2E66), (0, 1, -1))
        self.assertEqual(shortest(SINGLE, 0x7F7FFFFF), (0, 34028235, 31))
        self.assertEqual(shortest(SINGLE, 0x00000001), (0, 1, -45))
        # 33554448, whose middle to the number above is 3355445e1 and reads back to the even code
        self.assertEqual(shortest(SINGLE, 0x4C000004), (0, 3355445, 1))
        self.assertEqual(shortest(SINGLE, 0x4C000005), (0, 33554452, 0))
        self.assertEqual(shortest(DOUBLE, 0x7FEFFFFFFFFFFFFF), (0, 17976931348623157, 292))
        self.assertEqual(shortest(DOUBLE, 0x0010000000000000), (0, 22250738585072014, -324))
        self.assertEqual(shortest(DOUBLE, 1), (0, 5, -324))
        self.assertEqual(shortest(DOUBLE, 0xBFD5555555555555), (1, 3333333333333333, -16))
        self.assertEqual(shortest(DOUBLE, 0x44B52D02C7E14AF6), (0, 1, 23))
        self.assertEqual(shortest(QUAD, 1), (0, 6, -4966))
        told = shortest(QUAD, (0x7FFF << 112) - 1)
        self.assertEqual(told, (0, 1189731495357231765085759326628007, 4899))

    def test_the_machine_s_own_spelling(self):
        source = random.Random("spellings")
        for turn in range(1500):
            bits = source.getrandbits(64)
            if oracle.is_finite(DOUBLE, bits):
                number = struct.unpack(">d", bits.to_bytes(8, "big"))[0]
                parts = Decimal(repr(number)).normalize().as_tuple()
                figures = int("".join(map(str, parts.digits)))
                self.assertEqual(shortest(DOUBLE, bits), (parts.sign, figures, parts.exponent))

    def test_great_sizes_read_back(self):
        for size in (QUAD, LONG_FIELD, MANY_FIGURES):
            end = oracle.end_code(size)
            for code in finite_codes(size, 12) + [1, 2 ** size[1], end - 1]:
                sign, figures, place = shortest(size, code)
                self.assertNotEqual(figures % 10, 0)
                self.assertEqual(read(size, "even", f"{figures}e{place}")[0], code)
                # One figure less does not do: the two beside the value read back as other numbers.
                shorter = figures // 10
                for near in (shorter, shorter + 1):
                    if shorter:
                        self.assertNotEqual(read(size, "even", f"{near}e{place + 1}")[0], code)

    def test_noughts(self):
        for size in SIZES:
            self.assertEqual(shortest(size, 0), (0, 0, 0))
            self.assertEqual(shortest(size, oracle.sign_bit(size)), (1, 0, 0))


class ReadsBack(unittest.TestCase):
    def test_all_numbers_of_little_sizes(self):
        for size in (LEAST, LITTLE, (4, 1)):
            for bits in oracle.finite_numbers(size):
                sign = oracle.sign_of(size, bits)
                for figures in (1, 2, 3, 5, 7, 9, 10, 15, 25, 75, 99, 125, 375, 1000):
                    for place in (-9000, -4, -3, -2, -1, 0, 1, 2, 9000):
                        value = figures * ten(place)
                        read_bits = oracle.rounded(size, "even", -value if sign else value)[0]
                        told = reads_back(size, bits, figures, place)
                        self.assertIs(told, read_bits == bits, (size, bits, figures, place))

    def test_known(self):
        self.assertIs(reads_back(DOUBLE, 0x3FB999999999999A, 1, -1), True)
        self.assertIs(reads_back(DOUBLE, 0xBFB999999999999A, 1, -1), True)
        self.assertIs(reads_back(DOUBLE, 0x3FB9999999999999, 1, -1), False)
        self.assertIs(reads_back(DOUBLE, 0x3FB999999999999A, 10, -2), True)
        self.assertIs(reads_back(HALF, 0x7BFF, 65519, 0), True)
        self.assertIs(reads_back(HALF, 0x7BFF, 65520, 0), False)
        self.assertIs(reads_back(HALF, 0x7BFF, 1, 9000), False)

    def test_noughts(self):
        for size in SIZES:
            for bits in (0, oracle.sign_bit(size)):
                self.assertIs(reads_back(size, bits, 1, -9000), True)
                self.assertIs(reads_back(size, bits, 1, 0), False)
                self.assertIs(reads_back(size, bits, 1, 9000), False)

    def test_midways_go_to_the_even_code(self):
        # 2049 is midway between the codes 0x6800 and 0x6801, 2051 between 0x6801 and 0x6802.
        told = [reads_back(HALF, bits, figures, 0) for bits in (0x6800, 0x6801, 0x6802)
                for figures in (2049, 2051)]
        self.assertEqual(told, [True, False, False, False, False, True])


class Laid(unittest.TestCase):
    def test_known(self):
        told = {
            # f = 0
            (0, 0): "0", (0, 5): "0", (0, -9000): "0", (0, 9000): "0",
            # p not below 0
            (1, 0): "1", (12, 0): "12", (12, 3): "12000", (120, 2): "12000", (1, 1): "10",
            # t = 20 and t = 21
            (1, 20): "1" + "0" * 20, (1, 21): "1e21", (12, 19): "12" + "0" * 19, (12, 20): "1.2e21",
            (123456789012345678901, 0): "123456789012345678901",
            (1234567890123456789012, 0): "1.234567890123456789012e21",
            (1234567890123456789012, -1): "123456789012345678901.2",
            (10 ** 20, 0): "1" + "0" * 20, (10 ** 21, 0): "1." + "0" * 21 + "e21",
            # p below 0 and t not below 0
            (15, -1): "1.5", (125, -1): "12.5", (125, -2): "1.25", (150, -2): "1.50", (10, -1): "1.0",
            (100, -1): "10.0",
            # t below 0
            (1, -1): "0.1", (15, -2): "0.15", (1, -2): "0.01", (125, -4): "0.0125", (10, -2): "0.10",
            # t = -5 and t = -6
            (1, -5): "0.00001", (12, -6): "0.000012", (1, -6): "1e-6", (12, -7): "1.2e-6",
            (123, -8): "1.23e-6", (100, -8): "1.00e-6", (100, -7): "0.0000100",
            # far off
            (5, -324): "5e-324", (17976931348623157, 292): "1.7976931348623157e308",
            (1, 9000): "1e9000", (1, -9000): "1e-9000", (25, 8999): "2.5e9000",
            (25, -9000): "2.5e-8999",
        }
        for (figures, place), text in told.items():
            self.assertEqual(laid(0, figures, place), text)
            self.assertEqual(laid(1, figures, place), "-" + text)

    def test_each_place_by_the_value(self):
        for figures in (1, 7, 10, 25, 100, 12345, 10 ** 20, 123456789 * 10 ** 13 + 1, 10 ** 59 + 1, 10 ** 60 - 1):
            count = len(str(figures))
            for place in range(-70, 30):
                text = laid(0, figures, place)
                self.assertEqual(Fraction(text), figures * ten(place))
                self.assertEqual(laid(1, figures, place), "-" + text)
                height = place + count - 1
                self.assertEqual("e" in text, not -5 <= height <= 20, (figures, place))
                if "e" in text:
                    self.assertEqual(text.split("e")[1], str(height))
                    self.assertEqual(len(text.split("e")[0]), count + (count > 1))
                elif place >= 0:
                    self.assertEqual(text, str(figures * 10 ** place))
                else:
                    self.assertEqual(len(text.split(".")[1]), -place)
                    self.assertEqual(text.split(".")[0], str(figures // 10 ** -place))

    def test_arguments_by_name(self):
        self.assertEqual(laid(sign=1, figures=15, place=-1), "-1.5")


class Shown(unittest.TestCase):
    def test_kinds(self):
        for size in SIZES:
            end = oracle.end_code(size)
            sign = oracle.sign_bit(size)
            self.assertEqual(shown(size, 0), "0")
            self.assertEqual(shown(size, sign), "-0")
            self.assertEqual(shown(size, end), "endless")
            self.assertEqual(shown(size, end + sign), "-endless")
            for code in (end + 1, oracle.plain_none(size), end + 2 ** size[1] - 1):
                self.assertEqual(shown(size, code), "none")
                self.assertEqual(shown(size, code + sign), "none")

    def test_known(self):
        told = {
            0x3C00: "1", 0xBC00: "-1", 0x4100: "2.5", 0x2E66: "0.1", 0x7BFF: "65500", 0x0001: "6e-8",
            0x8001: "-6e-8", 0x3555: "0.3333", 0x0400: "0.00006104", 0x03FF: "0.000061",
        }
        for bits, text in told.items():
            self.assertEqual(shown(HALF, bits), text)
        self.assertEqual(shown(DOUBLE, 0x3FB999999999999A), "0.1")
        self.assertEqual(shown(DOUBLE, 0x7FEFFFFFFFFFFFFF), "1.7976931348623157e308")
        self.assertEqual(shown(DOUBLE, 0x4415AF1D78B58C40), "100000000000000000000")
        self.assertEqual(shown(DOUBLE, 0x444B1AE4D6E2EF50), "1e21")
        self.assertEqual(shown(QUAD, (0x7FFF << 112) - 1), "1.189731495357231765085759326628007e4932")

    def test_what_is_shown_reads_back(self):
        for size in (LEAST, LITTLE, (5, 2)):
            for bits in oracle.numbers(size):
                self.assertEqual(read(size, "even", shown(size, bits))[0], bits)
        for size in SIZES:
            for bits in drawn_bits(size, 8):
                if not oracle.is_none(size, bits):
                    self.assertEqual(read(size, "even", shown(size, bits))[0], bits)


class Refusals(unittest.TestCase):
    def test_not_finite(self):
        for size in SIZES:
            end = oracle.end_code(size)
            for code in (end, end + 1, oracle.plain_none(size), end + 2 ** size[1] - 1):
                for bits in (code, code + oracle.sign_bit(size)):
                    with self.assertRaises(NotFinite):
                        shortest(size, bits)
                    with self.assertRaises(NotFinite):
                        reads_back(size, bits, 1, 0)
                    with self.assertRaises(NotFinite):
                        reads_back(size, bits, 1, 9000)

    def test_no_bits(self):
        for size in SIZES:
            for bits in no_bits(size):
                for call in (lambda: shortest(size, bits), lambda: shown(size, bits),
                             lambda: reads_back(size, bits, 1, 0)):
                    with self.assertRaises(NoBits):
                        call()

    def test_arguments_by_name(self):
        self.assertIs(reads_back(size=HALF, bits=0x3C00, figures=1, place=0), True)
        self.assertEqual(shortest(size=HALF, bits=0x3C00), (0, 1, 0))
        self.assertEqual(shown(size=HALF, bits=0x3C00), "1")


if __name__ == "__main__":
    unittest.main()
