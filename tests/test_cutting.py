import math
import random
import unittest
from fractions import Fraction

import oracle
from roundmill.cutting import cut, root_cut, whole_root
from roundmill.errors import NoFraction
from drawn import (
    DOUBLE, HALF, HUGE, LEAST, LITTLE, LONG_FIELD, MANY_FIGURES, QUAD, SINGLE, SIZES,
)


def two_to(power):
    return Fraction(2) ** power


class CutTest(unittest.TestCase):
    def holds(self, size, told, against):
        """Point 12, word by word; against(v) is 1, 0, -1 as the number is to v."""
        self.assertIs(type(told), tuple)
        whole, power, rest = told
        low = oracle.low(size)
        self.assertGreaterEqual(power, low)
        self.assertTrue(against(two_to(power + size[1] + 1)) < 0)
        self.assertTrue(power == low or against(two_to(power + size[1])) >= 0)
        self.assertTrue(whole >= 0)
        self.assertTrue(against(whole * two_to(power)) >= 0)
        self.assertTrue(against((whole + 1) * two_to(power)) < 0)
        if against(whole * two_to(power)) == 0:
            self.assertEqual(rest, 0)
        else:
            middle = against((2 * whole + 1) * two_to(power - 1))
            self.assertEqual(rest, {-1: 1, 0: 2, 1: 3}[middle])

    def cut_holds(self, size, top, bottom):
        x = Fraction(top, bottom)
        self.holds(size, cut(size, top, bottom), lambda v: oracle.order(x, v))

    def root_holds(self, size, top, bottom):
        x = Fraction(top, bottom)
        self.holds(size, root_cut(size, top, bottom), lambda v: oracle.order(x, v * v))


class Cuts(CutTest):
    def test_known(self):
        self.assertEqual(cut(HALF, 1, 1), (1024, -10, 0))
        self.assertEqual(cut(HALF, 1, 3), (1365, -12, 1))
        self.assertEqual(cut(HALF, 2, 3), (1365, -11, 1))
        self.assertEqual(cut(HALF, 4095, 1), (2047, 1, 2))
        self.assertEqual(cut(HALF, 4096, 1), (1024, 2, 0))
        self.assertEqual(cut(HALF, 2047, 1), (2047, 0, 0))
        self.assertEqual(cut(HALF, 2048, 1), (1024, 1, 0))
        self.assertEqual(cut(LITTLE, 100, 1), (12, 3, 2))
        self.assertEqual(cut(LITTLE, 99, 1), (12, 3, 1))
        self.assertEqual(cut(LITTLE, 101, 1), (12, 3, 3))
        self.assertEqual(cut(LITTLE, 96, 1), (12, 3, 0))
        self.assertEqual(cut(LITTLE, 200, 2), (12, 3, 2))
        self.assertEqual(cut(DOUBLE, 1, 10), (7205759403792793, -56, 3))

    def test_a_top_of_nought(self):
        for size in SIZES:
            for bottom in (1, 2, 7, HUGE):
                self.assertEqual(cut(size, 0, bottom), (0, oracle.low(size), 0))
                self.assertEqual(root_cut(size, 0, bottom), (0, oracle.low(size), 0))

    def test_every_fraction_of_little_numbers(self):
        for size in (LEAST, LITTLE, (2, 3), (4, 1)):
            for top in range(1, 70):
                for bottom in range(1, 40):
                    self.cut_holds(size, top, bottom)

    def test_each_rest_at_each_edge(self):
        for size in SIZES:
            low = oracle.low(size)
            figures = size[1]
            for power in (low, low + 1, low + 2, -1, 0, 1, -low, 20000):
                for whole in {2 ** figures, 2 ** figures + 1, 2 ** (figures + 1) - 1}:
                    for fourth in range(4):
                        x = (whole + Fraction(fourth, 4)) * two_to(max(low, power))
                        told = cut(size, x.numerator, x.denominator)
                        self.assertTrue(told == (whole, max(low, power), fourth))

    def test_below_the_powers_reach(self):
        for size in SIZES:
            low = oracle.low(size)
            for whole in {0, 1, 2 ** size[1] - 1}:
                for fourth in range(4):
                    x = (whole + Fraction(fourth, 4)) * two_to(low)
                    told = cut(size, x.numerator, x.denominator)
                    self.assertEqual(told, (whole, low, fourth))

    def test_far_below_the_least_step(self):
        for size in SIZES:
            low = oracle.low(size)
            step = 2 ** -low
            self.assertEqual(cut(size, 1, HUGE), (0, low, 1))
            self.assertEqual(cut(size, 1, 2 * step), (0, low, 2))
            self.assertEqual(cut(size, HUGE - 1, 2 * step * HUGE), (0, low, 1))
            self.assertEqual(cut(size, HUGE + 1, 2 * step * HUGE), (0, low, 3))
            self.assertEqual(cut(size, HUGE - 1, step * HUGE), (0, low, 3))
            self.assertEqual(cut(size, HUGE + 1, step * HUGE), (1, low, 1))

    def test_far_beyond_the_top(self):
        for size in SIZES:
            for power in (20000, 60000, 65000):
                steps = power - size[1]
                self.assertTrue(cut(size, 2 ** power, 1) == (2 ** size[1], steps, 0))
                self.assertTrue(cut(size, 2 ** power + 1, 1) == (2 ** size[1], steps, 1))
                last = (2 ** (size[1] + 1) - 1, steps - 1, 3)
                self.assertTrue(cut(size, 2 ** power - 1, 1) == last)

    def test_tops_and_bottoms_of_many_figures(self):
        for size in (LEAST, HALF, DOUBLE, QUAD, MANY_FIGURES):
            for top, bottom in ((HUGE, HUGE + 1), (HUGE + 1, HUGE), (HUGE, 3), (7, HUGE), (HUGE, HUGE),
                                (HUGE * HUGE + 1, HUGE), (HUGE, HUGE * HUGE - 1)):
                self.cut_holds(size, top, bottom)

    def test_drawn(self):
        source = random.Random("cuts")
        for size in SIZES:
            for turn in range(60):
                top = source.getrandbits(source.choice((3, 20, 130, 3000)))
                bottom = 1 + source.getrandbits(source.choice((3, 20, 130, 3000)))
                self.cut_holds(size, top, bottom)


class Roots(CutTest):
    def test_known(self):
        self.assertEqual(root_cut(HALF, 1, 1), (1024, -10, 0))
        self.assertEqual(root_cut(HALF, 2, 1), (1448, -10, 1))
        self.assertEqual(root_cut(HALF, 4, 1), (1024, -9, 0))
        self.assertEqual(root_cut(HALF, 1, 4), (1024, -11, 0))
        self.assertEqual(root_cut(HALF, 1, 2), (1448, -11, 1))
        self.assertEqual(root_cut(LITTLE, 100, 1), (10, 0, 0))
        self.assertEqual(root_cut(LITTLE, 17 * 17, 1), (8, 1, 2))
        self.assertEqual(root_cut(LITTLE, 17 * 17 - 1, 1), (8, 1, 1))
        self.assertEqual(root_cut(LITTLE, 17 * 17 + 1, 1), (8, 1, 3))
        self.assertEqual(root_cut(LITTLE, 8, 2), (8, -2, 0))

    def test_every_fraction_of_little_numbers(self):
        for size in (LEAST, LITTLE, (2, 3), (4, 1)):
            for top in range(1, 70):
                for bottom in range(1, 40):
                    self.root_holds(size, top, bottom)

    def test_squares_and_their_neighbours(self):
        for size in SIZES:
            for root in list(range(1, 40)) + [2 ** 57 - 1, 2 ** 57, 2 ** 120 + 1, 10 ** 50 + 7]:
                for top in (root * root - 1, root * root, root * root + 1):
                    for bottom in (1, 2, 4, 9, 49):
                        if top > 0:
                            self.root_holds(size, top, bottom)
                            self.root_holds(size, bottom, top)

    def test_each_rest_at_each_edge(self):
        for size in SIZES:
            low = oracle.low(size)
            figures = size[1]
            for power in {low, low + 1, max(low, 0), max(low, 7), 9000}:
                for whole in {2 ** figures, 2 ** figures + 1, 2 ** (figures + 1) - 1}:
                    for fourth in range(4):
                        x = ((whole + Fraction(fourth, 4)) * two_to(power)) ** 2
                        told = root_cut(size, x.numerator, x.denominator)
                        self.assertTrue(told == (whole, power, fourth))

    def test_below_the_powers_reach(self):
        for size in SIZES:
            low = oracle.low(size)
            for whole in {0, 1, 2 ** size[1] - 1}:
                for fourth in range(4):
                    x = ((whole + Fraction(fourth, 4)) * two_to(low)) ** 2
                    told = root_cut(size, x.numerator, x.denominator)
                    self.assertEqual(told, (whole, low, fourth))

    def test_a_hair_beside_the_middle(self):
        for size in (LEAST, HALF, DOUBLE, QUAD):
            x = ((2 ** size[1] + Fraction(1, 2)) * two_to(3)) ** 2
            for hair, rest in ((-1, 1), (0, 2), (1, 3)):
                y = x + Fraction(hair, HUGE)
                told = root_cut(size, y.numerator, y.denominator)
                self.assertEqual(told, (2 ** size[1], 3, rest))

    def test_many_figures(self):
        for size in (LEAST, HALF, DOUBLE, QUAD, MANY_FIGURES, LONG_FIELD):
            for top, bottom in ((HUGE, 1), (HUGE * HUGE, 1), (HUGE * HUGE - 1, 1), (1, HUGE),
                                (HUGE + 1, HUGE), (3, HUGE * HUGE)):
                self.root_holds(size, top, bottom)

    def test_drawn(self):
        source = random.Random("roots")
        for size in SIZES:
            for turn in range(60):
                top = source.getrandbits(source.choice((3, 20, 130, 1500)))
                bottom = 1 + source.getrandbits(source.choice((3, 20, 130, 1500)))
                self.root_holds(size, top, bottom)


class WholeRoots(unittest.TestCase):
    def test_little_numbers(self):
        self.assertEqual([whole_root(number) for number in range(10)], [0, 1, 1, 1, 2, 2, 2, 2, 2, 3])
        for number in range(5000):
            self.assertEqual(whole_root(number), math.isqrt(number))

    def test_squares_one_less_and_one_more(self):
        for root in (2, 3, 10, 255, 256, 257, 2 ** 32, 2 ** 53 + 1, 10 ** 30 + 3, HUGE, HUGE + 1):
            self.assertTrue(whole_root(root * root) == root)
            self.assertTrue(whole_root(root * root - 1) == root - 1)
            self.assertTrue(whole_root(root * root + 1) == root)
            self.assertTrue(whole_root(root * root + 2 * root) == root)

    def test_drawn(self):
        source = random.Random("whole roots")
        for length in (10, 64, 65, 127, 128, 1000, 20001):
            for turn in range(20):
                number = source.getrandbits(length)
                self.assertTrue(whole_root(number) == math.isqrt(number))

    def test_refused_below_nought(self):
        for number in (-1, -2, -4, -HUGE):
            with self.assertRaises(NoFraction) as caught:
                whole_root(number)
            self.assertIsInstance(str(caught.exception), str)


class Refusals(unittest.TestCase):
    def test_no_fraction(self):
        for size in (LEAST, SINGLE, QUAD):
            for top, bottom in ((-1, 1), (-1, 2), (-HUGE, 1), (1, 0), (0, 0), (0, -1), (1, -1),
                                (-1, -1), (-3, 0), (HUGE, -HUGE), (-HUGE, HUGE)):
                for function in (cut, root_cut):
                    with self.assertRaises(NoFraction) as caught:
                        function(size, top, bottom)
                    self.assertIsInstance(str(caught.exception), str)

    def test_arguments_by_name(self):
        self.assertEqual(cut(size=HALF, top=1, bottom=1), (1024, -10, 0))
        self.assertEqual(root_cut(size=HALF, top=1, bottom=1), (1024, -10, 0))
        self.assertEqual(whole_root(number=10), 3)


if __name__ == "__main__":
    unittest.main()
