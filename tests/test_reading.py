import itertools
import random
import re
import struct
import unittest
from fractions import Fraction

import oracle
from roundmill.errors import NoText, NoWay
from roundmill.reading import read, spelled, ten_to
from oracle import WAYS
from drawn import DOUBLE, HALF, LEAST, LITTLE, QUAD, SINGLE, SIZES

NO_NUMERALS = (
    "", " ", "    ", "+", "-", ".", "e", "e5", "1e", "1e+", "1e-", "+e5", ".5", "5.", "-.5", "+5.",
    "5.e3", ".e3", ".5e3", "1E5", "1.5E5", "1e12345", "1e00000", "1e+00001", "1e-12345", "1e1.5",
    "1e.5", "1e5.", "1.2.3", "1..2", "1e5e5", "1ee5", "--1", "++1", "+-1", "-+1", "1e--5", "1e+-5",
    "1-", "1+", "1e5-", "1 2", "- 1", "+ 1", "1 e5", "1e 5", "1. 5", "1 .5", "1e5 5", "1,5", "1_000",
    "0x10", "x", "1x", "x1", "one", "inf", "nan", "Infinity", "1'", "1/2", "(1)", "#1", "~", "!",
    "endles", "endlesss", "nones", "non", "Endless", "NONE", "None", "end less", "- endless",
    "+ none", "--endless", "+-none", "endless none", "endlessnone", "1endless", "endless1", "enone",
    "endless.", "nonee5",
)


class TenTo(unittest.TestCase):
    def test_powers(self):
        for number in list(range(70)) + [400, 1023, 1024, 4966, 9999, 10400, 20000]:
            self.assertTrue(ten_to(number) == 10 ** number, number)
        self.assertEqual(ten_to(0), 1)
        self.assertEqual(ten_to(number=1), 10)


class Spelled(unittest.TestCase):
    def test_known(self):
        told = {
            "0": (0, 0, 0), "-0": (1, 0, 0), "+0": (0, 0, 0), "7": (0, 7, 0), "+7": (0, 7, 0),
            "-7": (1, 7, 0), "12": (0, 12, 0), "0012": (0, 12, 0), "1.5": (0, 15, -1),
            "-1.50": (1, 150, -2), "0.001": (0, 1, -3), "00.00": (0, 0, -2), "1e5": (0, 1, 5),
            "1e+5": (0, 1, 5), "1e-5": (0, 1, -5), "1e0": (0, 1, 0), "1e-0": (0, 1, 0),
            "1e0005": (0, 1, 5), "1e12": (0, 1, 12), "1e123": (0, 1, 123), "1e1234": (0, 1, 1234),
            "1e9999": (0, 1, 9999), "1e-9999": (0, 1, -9999), "1.25e-9999": (0, 125, -10001),
            "12.5e3": (0, 125, 2), "-12.5e+03": (1, 125, 2), "100": (0, 100, 0), "-0.0e7": (1, 0, 6),
            "9.99": (0, 999, -2), "0123456789": (0, 123456789, 0), "10e0010": (0, 10, 10),
        }
        for line, spelling in told.items():
            for blanks in ("", " ", "     "):
                for text in (line, blanks + line, line + blanks, blanks + line + blanks):
                    self.assertEqual(spelled(text), spelling, text)
                    self.assertIs(type(spelled(text)), tuple)

    def test_just_four_hundred_signs(self):
        for line in ("1" * 400, "0" * 399 + "7", "-" + "3" * 397 + ".5", "1." + "4" * 398,
                     "5" * 394 + "e+1234", " " * 399 + "8", "8" + " " * 399, " " * 200 + "9" + " " * 199):
            self.assertEqual(len(line), 400)
            digits = line.strip().split("e")[0].replace(".", "").replace("-", "")
            self.assertEqual(spelled(line)[1], int(digits))
            for longer in (line + " ", " " + line, "0" + line, line + "1"):
                with self.assertRaises(NoText):
                    spelled(longer)
                with self.assertRaises(NoText):
                    read(HALF, "even", longer)

    def test_no_numerals(self):
        for line in NO_NUMERALS + ("endless", "none", "-endless", "+none", "1" * 401, " " * 400, " " * 401):
            for text in (line, " " + line, line + " "):
                with self.assertRaises(NoText, msg=text):
                    spelled(text)

    def test_every_short_text_by_the_words_of_the_document(self):
        form = re.compile(r" *[+-]?[0-9]+(\.[0-9]+)?(e[+-]?[0-9]{1,4})? *")
        for length in range(1, 7):
            for signs in itertools.product("-1.e ", repeat=length):
                line = "".join(signs)
                if form.fullmatch(line):
                    value = Fraction(line.strip())
                    sign, figures, place = spelled(line)
                    self.assertEqual((-1) ** sign * figures * Fraction(10) ** place, value)
                else:
                    with self.assertRaises(NoText, msg=line):
                        spelled(line)

    def test_argument_by_name(self):
        self.assertEqual(spelled(line="1"), (0, 1, 0))


class Read(unittest.TestCase):
    def holds(self, size, line):
        value = Fraction(line)
        for way in WAYS:
            told = read(size, way, line)
            self.assertIs(type(told), tuple)
            if value == 0:
                sign = int(line.strip().startswith("-"))
                self.assertEqual(told, (oracle.signed(size, sign, 0), 0))
            else:
                self.assertEqual(told, oracle.rounded(size, way, value), (size, way, line))

    def test_noughts(self):
        for size in SIZES:
            sign = oracle.sign_bit(size)
            for way in WAYS:
                for line in ("0", "+0", "0.000", "0e9999", "0e-9999", " 00.0e5 "):
                    self.assertEqual(read(size, way, line), (0, 0))
                for line in ("-0", "-0.000", "-0e9999", " -0e-9999 "):
                    self.assertEqual(read(size, way, line), (sign, 0))

    def test_known(self):
        self.assertEqual(read(HALF, "even", "1"), (0x3C00, 0))
        self.assertEqual(read(HALF, "even", " -2.5 "), (0xC100, 0))
        self.assertEqual(read(HALF, "even", "0.1"), (0x2E66, 1))
        self.assertEqual(read(HALF, "up", "0.1"), (0x2E67, 1))
        self.assertEqual(read(HALF, "up", "-0.1"), (0xAE66, 1))
        self.assertEqual(read(DOUBLE, "even", "0.1"), (0x3FB999999999999A, 1))
        self.assertEqual(read(DOUBLE, "even", "1e23"), (0x44B52D02C7E14AF6, 1))

    def test_midways_and_a_hair_beside(self):
        for line in ("1.00048828125", "1.000488281249999", "1.000488281250001", "1.00146484375",
                     "2049", "2050", "2051", "2049.00000000001", "2048.99999999999"):
            self.holds(HALF, line)
            self.holds(HALF, "-" + line)
        self.assertEqual(read(HALF, "even", "2049"), (0x6800, 1))
        self.assertEqual(read(HALF, "away", "2049"), (0x6801, 1))
        self.assertEqual(read(HALF, "even", "2051"), (0x6802, 1))
        self.assertEqual(read(HALF, "even", "2049." + "0" * 390 + "1"), (0x6801, 1))

    def test_below_the_least_step(self):
        for size in (LEAST, LITTLE, HALF, DOUBLE, QUAD):
            for line in ("1e-9999", "-1e-9999", "3.5e-4967", "2e-324", "3e-324", "2.9e-8", "3e-8", "0.25",
                         "0.24", "0.26"):
                self.holds(size, line)
        for way in WAYS:
            bits = 1 if way == "up" else 0
            self.assertEqual(read(QUAD, way, "1e-9999"), (bits, 3))
        # Half of HALF's least step, 2 ** -25, just so and a hair beside it.
        half = "298023223876953125e-25"
        self.assertEqual(Fraction(half), Fraction(1, 2 ** 25))
        self.assertEqual(read(HALF, "even", half), (0, 3))
        self.assertEqual(read(HALF, "away", half), (1, 3))
        self.assertEqual(read(HALF, "even", "298023223876953125.1e-25"), (1, 3))

    def test_the_top_and_beyond(self):
        for line in ("65504", "65505", "65519.99999", "65520", "65521", "65535.9", "65536", "65537", "1e5",
                     "1e9999", "9" * 400):
            self.holds(HALF, line)
            if len(line) < 400:
                self.holds(HALF, "-" + line)
        self.assertEqual(read(HALF, "even", "65519.99999"), (0x7BFF, 1))
        self.assertEqual(read(HALF, "even", "65520"), (0x7C00, 5))
        self.assertEqual(read(HALF, "nought", "65536"), (0x7BFF, 5))
        self.assertEqual(read(HALF, "nought", "65535"), (0x7BFF, 1))
        self.assertEqual(read(QUAD, "down", "1e9999"), ((0x7FFF << 112) - 1, 5))

    def test_drawn(self):
        source = random.Random("reading")
        for size in (LITTLE, HALF, SINGLE, DOUBLE):
            reach = {LITTLE: 3, HALF: 10, SINGLE: 50, DOUBLE: 340}[size]
            for turn in range(80):
                figures = str(source.randrange(10 ** source.randrange(1, 25)))
                line = f"{figures}.{source.randrange(1000)}e{source.randrange(-reach, reach)}"
                self.holds(size, source.choice(("", "+", "-")) + line)

    def test_the_machine_s_own_reading(self):
        source = random.Random("machine")
        for turn in range(500):
            line = f"{source.randrange(10 ** 20)}e{source.randrange(-345, 300)}"
            bits = int.from_bytes(struct.pack(">d", float(line)), "big")
            self.assertEqual(read(DOUBLE, "even", line)[0], bits)

    def test_words(self):
        for size in SIZES:
            end = oracle.end_code(size)
            sign = oracle.sign_bit(size)
            none = oracle.plain_none(size)
            for way in WAYS:
                for blanks in ("", "  "):
                    for line, bits in (("endless", end), ("+endless", end), ("-endless", end + sign),
                                       ("none", none), ("+none", none), ("-none", none)):
                        told = read(size, way, blanks + line + blanks)
                        self.assertEqual(told, (bits, 0), line)

    def test_words_of_four_hundred_signs(self):
        for word, bits in (("endless", 0x7C00), ("-endless", 0xFC00), ("-none", 0x7E00)):
            self.assertEqual(read(HALF, "even", word.rjust(400)), (bits, 0))
            self.assertEqual(read(HALF, "even", word.ljust(400)), (bits, 0))
            with self.assertRaises(NoText):
                read(HALF, "even", word.rjust(401))
            with self.assertRaises(NoText):
                read(HALF, "even", word.ljust(401))

    def test_no_text(self):
        for line in NO_NUMERALS:
            for way in WAYS:
                with self.assertRaises(NoText, msg=line):
                    read(HALF, way, line)

    def test_no_way_goes_ahead_of_no_text(self):
        for way in ("", "Even", "odd"):
            for line in ("1", "0", "endless", "none", "", "x", "1" * 401):
                with self.assertRaises(NoWay):
                    read(HALF, way, line)

    def test_arguments_by_name(self):
        self.assertEqual(read(size=HALF, way="up", line="1"), (0x3C00, 0))


if __name__ == "__main__":
    unittest.main()
