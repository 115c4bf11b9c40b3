import itertools
import math
import random
import struct
import unittest
from fractions import Fraction

import oracle
from roundmill.deeds import added, divided, fused, multiplied, rooted, taken
from roundmill.errors import NoBits, NoWay
from oracle import WAYS
from drawn import DOUBLE, HALF, LEAST, LITTLE, QUAD, SINGLE, SIZES, drawn_bits, no_bits

PAIRS = {added: oracle.added, taken: oracle.taken, multiplied: oracle.multiplied,
         divided: oracle.divided}

# HALF's own
ONE, TWO, THREE = 0x3C00, 0x4000, 0x4200
NOUGHT, MINUS_NOUGHT, ENDLESS, MINUS_ENDLESS, NONE = 0x0000, 0x8000, 0x7C00, 0xFC00, 0x7E00
LEAST_FAINT, GREATEST, MINUS_ONE = 0x0001, 0x7BFF, 0xBC00


def marked(size):
    """Numbers of each kind and both signs, nones left out."""
    end = oracle.end_code(size)
    codes = (0, 1, 2 ** size[1] - 1, 2 ** size[1], oracle.bias(size) * 2 ** size[1],
             oracle.bias(size) * 2 ** size[1] + 1, end - 1, end)
    return [code + sign for code in codes for sign in (0, oracle.sign_bit(size))]


def nones(size):
    end = oracle.end_code(size)
    codes = sorted({end + 1, oracle.plain_none(size), end + 2 ** size[1] - 1})
    return [code + sign for code in codes for sign in (0, oracle.sign_bit(size))]


class Exact(unittest.TestCase):
    def pair_holds(self, size, way, a, b):
        for deed, expected in PAIRS.items():
            told = deed(size, way, a, b)
            self.assertEqual(told, expected(size, way, a, b), (deed.__name__, size, way, a, b))

    def test_all_pairs_of_little_sizes(self):
        for size in (LEAST, (2, 2), (3, 1), (3, 2)):
            for way in WAYS:
                for a in oracle.every_bits(size):
                    for b in oracle.every_bits(size):
                        self.pair_holds(size, way, a, b)

    def test_all_roots_of_little_sizes(self):
        for size in (LEAST, (2, 4), LITTLE, (4, 4), (5, 2)):
            for way in WAYS:
                for a in oracle.every_bits(size):
                    self.assertEqual(rooted(size, way, a), oracle.rooted(size, way, a))

    def test_all_threes_of_the_least_size(self):
        for way in WAYS:
            for threes in itertools.product(range(16), repeat=3):
                told = fused(LEAST, way, *threes)
                self.assertEqual(told, oracle.fused(LEAST, way, *threes), (way, threes))

    def test_drawn_threes_of_a_little_size(self):
        source = random.Random("threes")
        for turn in range(3000):
            threes = [source.randrange(128) for place in range(3)]
            for way in WAYS:
                told = fused(LITTLE, way, *threes)
                self.assertEqual(told, oracle.fused(LITTLE, way, *threes), (way, threes))

    def test_marked_pairs_of_each_size(self):
        for size in SIZES:
            for way in ("even", "down"):
                for a in marked(size):
                    for b in marked(size):
                        self.pair_holds(size, way, a, b)

    def test_drawn_pairs(self):
        for size in (HALF, SINGLE, DOUBLE, QUAD):
            drawn = drawn_bits(size, 40)
            for place in range(len(drawn) - 1):
                for way in WAYS:
                    self.pair_holds(size, way, drawn[place], drawn[place + 1])

    def test_answers_are_tuples(self):
        for told in (added(HALF, "even", 1, 2), taken(HALF, "even", 1, 2),
                     multiplied(HALF, "even", 1, 2), divided(HALF, "even", 1, 2),
                     rooted(HALF, "even", 1), fused(HALF, "even", 1, 2, 3)):
            self.assertIs(type(told), tuple)


class Machine(unittest.TestCase):
    """The machine's own deeds, which round by even."""

    def number(self, bits):
        return struct.unpack(">d", bits.to_bytes(8, "big"))[0]

    def bits(self, number):
        return int.from_bytes(struct.pack(">d", number), "big")

    def test_drawn_doubles(self):
        source = random.Random("doubles")
        for turn in range(1000):
            a = self.bits(source.uniform(-1, 1) * 10.0 ** source.randrange(-20, 20))
            b = self.bits(source.uniform(-1, 1) * 10.0 ** source.randrange(-20, 20))
            x, y = self.number(a), self.number(b)
            self.assertEqual(added(DOUBLE, "even", a, b)[0], self.bits(x + y))
            self.assertEqual(taken(DOUBLE, "even", a, b)[0], self.bits(x - y))
            self.assertEqual(multiplied(DOUBLE, "even", a, b)[0], self.bits(x * y))
            self.assertEqual(divided(DOUBLE, "even", a, b)[0], self.bits(x / y))
            self.assertEqual(rooted(DOUBLE, "even", self.bits(abs(x)))[0],
                             self.bits(math.sqrt(abs(x))))


class Nones(unittest.TestCase):
    def test_any_none_gives_the_plain_none_without_a_flag(self):
        for size in SIZES:
            plain = (oracle.plain_none(size), 0)
            others = marked(size) + nones(size)
            for way in ("even", "down"):
                for none in nones(size):
                    self.assertEqual(rooted(size, way, none), plain)
                    for other in others:
                        for deed in PAIRS:
                            self.assertEqual(deed(size, way, none, other), plain)
                            self.assertEqual(deed(size, way, other, none), plain)

    def test_a_none_goes_ahead_of_what_is_wrong(self):
        for none in nones(HALF):
            for threes in ((NOUGHT, ENDLESS, none), (ENDLESS, MINUS_NOUGHT, none),
                           (none, ENDLESS, MINUS_ENDLESS), (ENDLESS, none, NOUGHT)):
                self.assertEqual(fused(HALF, "even", *threes), (NONE, 0))


class Sums(unittest.TestCase):
    def test_endless_terms(self):
        for way in WAYS:
            for other in (NOUGHT, MINUS_NOUGHT, ONE, MINUS_ONE, GREATEST, 0xFBFF):
                self.assertEqual(added(HALF, way, ENDLESS, other), (ENDLESS, 0))
                self.assertEqual(added(HALF, way, other, MINUS_ENDLESS), (MINUS_ENDLESS, 0))
                self.assertEqual(taken(HALF, way, other, MINUS_ENDLESS), (ENDLESS, 0))
                self.assertEqual(taken(HALF, way, MINUS_ENDLESS, other), (MINUS_ENDLESS, 0))
            self.assertEqual(added(HALF, way, ENDLESS, ENDLESS), (ENDLESS, 0))
            self.assertEqual(added(HALF, way, MINUS_ENDLESS, MINUS_ENDLESS), (MINUS_ENDLESS, 0))
            self.assertEqual(added(HALF, way, ENDLESS, MINUS_ENDLESS), (NONE, 16))
            self.assertEqual(added(HALF, way, MINUS_ENDLESS, ENDLESS), (NONE, 16))
            self.assertEqual(taken(HALF, way, ENDLESS, ENDLESS), (NONE, 16))
            self.assertEqual(taken(HALF, way, ENDLESS, MINUS_ENDLESS), (ENDLESS, 0))

    def test_signs_of_nought(self):
        for way in WAYS:
            mixed = MINUS_NOUGHT if way == "down" else NOUGHT
            self.assertEqual(added(HALF, way, NOUGHT, NOUGHT), (NOUGHT, 0))
            self.assertEqual(added(HALF, way, MINUS_NOUGHT, MINUS_NOUGHT), (MINUS_NOUGHT, 0))
            self.assertEqual(added(HALF, way, NOUGHT, MINUS_NOUGHT), (mixed, 0))
            self.assertEqual(added(HALF, way, ONE, MINUS_ONE), (mixed, 0))
            self.assertEqual(taken(HALF, way, ONE, ONE), (mixed, 0))
            self.assertEqual(taken(HALF, way, NOUGHT, NOUGHT), (mixed, 0))
            self.assertEqual(taken(HALF, way, NOUGHT, MINUS_NOUGHT), (NOUGHT, 0))
            self.assertEqual(taken(HALF, way, MINUS_NOUGHT, NOUGHT), (MINUS_NOUGHT, 0))
            self.assertEqual(fused(HALF, way, MINUS_ONE, ONE, ONE), (mixed, 0))
            self.assertEqual(fused(HALF, way, NOUGHT, MINUS_ONE, MINUS_NOUGHT), (MINUS_NOUGHT, 0))
            self.assertEqual(fused(HALF, way, NOUGHT, MINUS_ONE, NOUGHT), (mixed, 0))

    def test_beyond_the_top(self):
        self.assertEqual(added(HALF, "even", GREATEST, GREATEST), (ENDLESS, 5))
        self.assertEqual(added(HALF, "nought", GREATEST, GREATEST), (GREATEST, 5))
        self.assertEqual(added(HALF, "even", GREATEST, ONE), (GREATEST, 1))
        self.assertEqual(added(HALF, "up", GREATEST, ONE), (ENDLESS, 5))


class Products(unittest.TestCase):
    def test_nought_and_endless(self):
        for way in WAYS:
            for a in (NOUGHT, MINUS_NOUGHT):
                for b in (ENDLESS, MINUS_ENDLESS):
                    self.assertEqual(multiplied(HALF, way, a, b), (NONE, 16))
                    self.assertEqual(multiplied(HALF, way, b, a), (NONE, 16))
            self.assertEqual(multiplied(HALF, way, MINUS_ONE, ENDLESS), (MINUS_ENDLESS, 0))
            self.assertEqual(multiplied(HALF, way, MINUS_ENDLESS, MINUS_ENDLESS), (ENDLESS, 0))
            self.assertEqual(multiplied(HALF, way, MINUS_ONE, NOUGHT), (MINUS_NOUGHT, 0))
            self.assertEqual(multiplied(HALF, way, MINUS_NOUGHT, MINUS_ONE), (NOUGHT, 0))

    def test_small_products(self):
        self.assertEqual(multiplied(HALF, "even", LEAST_FAINT, LEAST_FAINT), (0, 3))
        self.assertEqual(multiplied(HALF, "up", LEAST_FAINT, LEAST_FAINT), (1, 3))
        self.assertEqual(multiplied(HALF, "up", 0x8001, LEAST_FAINT), (0x8000, 3))
        self.assertEqual(multiplied(HALF, "even", LEAST_FAINT, TWO), (2, 0))


class Quotients(unittest.TestCase):
    def test_noughts_and_endless_ones(self):
        for way in WAYS:
            for a in (NOUGHT, MINUS_NOUGHT):
                for b in (NOUGHT, MINUS_NOUGHT):
                    self.assertEqual(divided(HALF, way, a, b), (NONE, 16))
            for a in (ENDLESS, MINUS_ENDLESS):
                for b in (ENDLESS, MINUS_ENDLESS):
                    self.assertEqual(divided(HALF, way, a, b), (NONE, 16))
            self.assertEqual(divided(HALF, way, ENDLESS, MINUS_NOUGHT), (MINUS_ENDLESS, 0))
            self.assertEqual(divided(HALF, way, MINUS_ENDLESS, MINUS_ONE), (ENDLESS, 0))
            self.assertEqual(divided(HALF, way, NOUGHT, MINUS_ENDLESS), (MINUS_NOUGHT, 0))
            self.assertEqual(divided(HALF, way, MINUS_ONE, MINUS_ENDLESS), (NOUGHT, 0))
            self.assertEqual(divided(HALF, way, MINUS_NOUGHT, ONE), (MINUS_NOUGHT, 0))
            self.assertEqual(divided(HALF, way, ONE, NOUGHT), (ENDLESS, 8))
            self.assertEqual(divided(HALF, way, ONE, MINUS_NOUGHT), (MINUS_ENDLESS, 8))
            self.assertEqual(divided(HALF, way, 0x8001, MINUS_NOUGHT), (ENDLESS, 8))

    def test_known(self):
        self.assertEqual(divided(HALF, "even", ONE, THREE), (0x3555, 1))
        self.assertEqual(divided(HALF, "up", ONE, THREE), (0x3556, 1))
        self.assertEqual(divided(HALF, "even", GREATEST, LEAST_FAINT), (ENDLESS, 5))
        self.assertEqual(divided(HALF, "even", LEAST_FAINT, GREATEST), (0, 3))


class Roots(unittest.TestCase):
    def test_kinds(self):
        for way in WAYS:
            self.assertEqual(rooted(HALF, way, NOUGHT), (NOUGHT, 0))
            self.assertEqual(rooted(HALF, way, MINUS_NOUGHT), (MINUS_NOUGHT, 0))
            self.assertEqual(rooted(HALF, way, ENDLESS), (ENDLESS, 0))
            for wrong in (MINUS_ENDLESS, MINUS_ONE, 0x8001, 0xFBFF):
                self.assertEqual(rooted(HALF, way, wrong), (NONE, 16))
            self.assertEqual(rooted(HALF, way, ONE), (ONE, 0))
            self.assertEqual(rooted(HALF, way, 0x4400), (TWO, 0))

    def test_known(self):
        self.assertEqual(rooted(HALF, "even", TWO), (0x3DA8, 1))
        self.assertEqual(rooted(HALF, "up", TWO), (0x3DA9, 1))
        self.assertEqual(rooted(DOUBLE, "even", 0x4000000000000000), (0x3FF6A09E667F3BCD, 1))


class Fused(unittest.TestCase):
    def test_it_rounds_once(self):
        # (1 + 2 ** -10) ** 2 is 1 + 2 ** -9 + 2 ** -20: two roundings lose the last part.
        a = 0x3C01
        product = multiplied(HALF, "even", a, a)[0]
        self.assertEqual(added(HALF, "even", product, 0xBC02), (0, 0))
        self.assertEqual(fused(HALF, "even", a, a, 0xBC02), (0x0010, 0))
        self.assertEqual(oracle.value(HALF, 0x0010), Fraction(1, 2 ** 20))

    def test_a_product_beyond_the_top_may_come_back(self):
        self.assertEqual(fused(HALF, "even", GREATEST, TWO, 0xFBFF), (GREATEST, 0))

    def test_the_wrong_product_goes_ahead_of_the_sum(self):
        for way in WAYS:
            for c in (NOUGHT, ONE, ENDLESS, MINUS_ENDLESS):
                self.assertEqual(fused(HALF, way, NOUGHT, ENDLESS, c), (NONE, 16))
                self.assertEqual(fused(HALF, way, MINUS_ENDLESS, NOUGHT, c), (NONE, 16))
            self.assertEqual(fused(HALF, way, ONE, ENDLESS, MINUS_ENDLESS), (NONE, 16))
            self.assertEqual(fused(HALF, way, MINUS_ONE, ENDLESS, MINUS_ENDLESS), (MINUS_ENDLESS, 0))
            self.assertEqual(fused(HALF, way, ONE, ONE, ENDLESS), (ENDLESS, 0))

    def test_drawn(self):
        source = random.Random("fused")
        for size in (SINGLE, DOUBLE):
            drawn = drawn_bits(size, 30)
            for turn in range(30):
                threes = [source.choice(drawn) for place in range(3)]
                for way in WAYS:
                    told = fused(size, way, *threes)
                    self.assertEqual(told, oracle.fused(size, way, *threes))


class Refusals(unittest.TestCase):
    def calls(self, way, fill, wrong):
        yield lambda: rooted(HALF, way, wrong)
        for deed in PAIRS:
            yield lambda: deed(HALF, way, wrong, fill)
            yield lambda: deed(HALF, way, fill, wrong)
        yield lambda: fused(HALF, way, wrong, fill, fill)
        yield lambda: fused(HALF, way, fill, wrong, fill)
        yield lambda: fused(HALF, way, fill, fill, wrong)

    def test_no_bits_at_whatever_place(self):
        for wrong in no_bits(HALF):
            for fill in (ONE, NOUGHT, ENDLESS, NONE, 0xFFFF):
                for call in self.calls("even", fill, wrong):
                    with self.assertRaises(NoBits):
                        call()

    def test_no_way(self):
        for way in ("", "Even", "odd"):
            for fill in (ONE, NOUGHT, ENDLESS, NONE):
                for call in self.calls(way, fill, fill):
                    with self.assertRaises(NoWay):
                        call()

    def test_no_way_goes_ahead_of_no_bits(self):
        for wrong in no_bits(HALF):
            for fill in (ONE, NONE, wrong):
                for call in self.calls("odd", fill, wrong):
                    with self.assertRaises(NoWay):
                        call()

    def test_arguments_by_name(self):
        for deed in PAIRS:
            self.assertEqual(deed(size=HALF, way="up", a=ONE, b=TWO), deed(HALF, "up", ONE, TWO))
        self.assertEqual(rooted(size=HALF, way="up", a=ONE), (ONE, 0))
        self.assertEqual(fused(size=HALF, way="up", a=ONE, b=ONE, c=ONE), (TWO, 0))


if __name__ == "__main__":
    unittest.main()
