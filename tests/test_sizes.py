import struct
import unittest

from roundmill.errors import NoSize
from roundmill.sizes import bias, endless, low, no_number, sign_bit, size_of, width
from drawn import (
    BRAIN, DOUBLE, HALF, HUGE, LEAST, LONG_FIELD, MANY_FIGURES, QUAD, SINGLE, SIZES,
)


class SizeOf(unittest.TestCase):
    def test_every_size_in_range(self):
        for exponent in range(2, 16):
            for figures in range(1, 113):
                told = size_of(exponent, figures)
                self.assertIs(type(told), tuple)
                self.assertEqual(told, (exponent, figures))

    def test_arguments_by_name(self):
        self.assertEqual(size_of(exponent=8, figures=23), (8, 23))

    def test_edges_of_the_exponent(self):
        for figures in (1, 52, 112):
            self.assertEqual(size_of(2, figures), (2, figures))
            self.assertEqual(size_of(15, figures), (15, figures))
            for exponent in (1, 16, 0, -1, -2, -15, 17, 112, HUGE, -HUGE):
                with self.assertRaises(NoSize):
                    size_of(exponent, figures)

    def test_edges_of_the_figures(self):
        for exponent in (2, 11, 15):
            self.assertEqual(size_of(exponent, 1), (exponent, 1))
            self.assertEqual(size_of(exponent, 112), (exponent, 112))
            for figures in (0, 113, -1, -112, 114, HUGE, -HUGE):
                with self.assertRaises(NoSize):
                    size_of(exponent, figures)

    def test_both_out_of_range(self):
        for exponent in (1, 16, -HUGE, HUGE):
            for figures in (0, 113, -HUGE, HUGE):
                with self.assertRaises(NoSize) as caught:
                    size_of(exponent, figures)
                self.assertIsInstance(str(caught.exception), str)


class Measures(unittest.TestCase):
    # size: (W, B, L)
    KNOWN = {
        LEAST: (4, 1, -1),
        HALF: (16, 15, -24),
        BRAIN: (16, 127, -133),
        SINGLE: (32, 127, -149),
        DOUBLE: (64, 1023, -1074),
        QUAD: (128, 16383, -16494),
        LONG_FIELD: (17, 16383, -16383),
        MANY_FIGURES: (115, 1, -112),
    }

    def test_known(self):
        for size, told in self.KNOWN.items():
            with self.subTest(size):
                self.assertEqual((width(size), bias(size), low(size)), told)

    def test_by_the_formulas(self):
        for exponent in range(2, 16):
            for figures in range(1, 113):
                size = (exponent, figures)
                self.assertEqual(width(size), exponent + figures + 1)
                self.assertEqual(bias(size), 2 ** (exponent - 1) - 1)
                self.assertEqual(low(size), 1 - (2 ** (exponent - 1) - 1) - figures)


class MarkedBits(unittest.TestCase):
    # size: (sign bit, positive endless, plain none)
    KNOWN = {
        LEAST: (0b1000, 0b0110, 0b0111),
        HALF: (0x8000, 0x7C00, 0x7E00),
        BRAIN: (0x8000, 0x7F80, 0x7FC0),
        SINGLE: (0x80000000, 0x7F800000, 0x7FC00000),
        DOUBLE: (0x8000000000000000, 0x7FF0000000000000, 0x7FF8000000000000),
        QUAD: (0x8 << 124, 0x7FFF << 112, 0x7FFF8 << 108),
    }

    def test_known(self):
        for size, told in self.KNOWN.items():
            with self.subTest(size):
                self.assertEqual((sign_bit(size), endless(size), no_number(size)), told)

    def test_by_the_formulas(self):
        for exponent in range(2, 16):
            for figures in range(1, 113):
                size = (exponent, figures)
                last = (2 ** exponent - 1) * 2 ** figures
                self.assertEqual(sign_bit(size), 2 ** (exponent + figures))
                self.assertEqual(endless(size), last)
                self.assertEqual(no_number(size), last + 2 ** (figures - 1))

    def test_the_machine_s_own_endless(self):
        for size, form in ((HALF, ">e"), (SINGLE, ">f"), (DOUBLE, ">d")):
            packed = struct.pack(form, float("inf"))
            self.assertEqual(endless(size), int.from_bytes(packed, "big"))


class Unchanged(unittest.TestCase):
    def test_asked_twice_the_same(self):
        for size in SIZES:
            for function in (width, bias, low, endless, no_number, sign_bit):
                self.assertEqual(function(size), function(size))
                self.assertIs(type(function(size)), int)


if __name__ == "__main__":
    unittest.main()
