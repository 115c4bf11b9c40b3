import random
import unittest
from fractions import Fraction

import oracle
from roundmill.errors import NoWay
from roundmill.totals import nought_sign, settled_total, total
from oracle import WAYS
from drawn import DOUBLE, HALF, HUGE, LEAST, LITTLE, QUAD, SIZES


def exact(term):
    sign, whole, power = term
    value = whole * Fraction(2) ** power
    return -value if sign else value


class Totals(unittest.TestCase):
    def test_no_terms(self):
        self.assertEqual(total([]), (0, 0, 0))

    def test_one_term(self):
        for term in ((0, 5, 3), (1, 5, 3), (0, 5, -3), (1, 6, -70000), (1, 1, 70000)):
            self.assertEqual(total([term]), term)
        self.assertEqual(total([(0, 0, 9)]), (0, 0, 9))
        self.assertEqual(total([(1, 0, -9)]), (0, 0, -9))

    def test_known(self):
        self.assertEqual(total([(0, 3, 0), (0, 5, 0)]), (0, 8, 0))
        self.assertEqual(total([(0, 3, 0), (1, 5, 0)]), (1, 2, 0))
        self.assertEqual(total([(0, 3, 4), (1, 5, 1)]), (0, 19, 1))
        self.assertEqual(total([(1, 3, -4), (0, 5, -6)]), (1, 7, -6))
        self.assertEqual(total([(0, 1, 2), (0, 1, 1), (1, 1, 0)]), (0, 5, 0))

    def test_sums_that_are_nought(self):
        self.assertEqual(total([(0, 3, 1), (1, 6, 0)]), (0, 0, 0))
        self.assertEqual(total([(1, 3, 1), (0, 6, 0)]), (0, 0, 0))
        self.assertEqual(total([(1, 0, 4), (1, 0, -4)]), (0, 0, -4))
        self.assertEqual(total([(0, HUGE, 70000), (1, HUGE, 70000)]), (0, 0, 70000))

    def test_the_power_is_the_least_one_of_noughts_too(self):
        self.assertEqual(total([(0, 1, 3), (1, 0, -2)]), (0, 32, -2))
        self.assertEqual(total([(0, 1, 3), (0, 0, 8)]), (0, 1, 3))

    def test_powers_far_from_each_other(self):
        told = total([(0, 1, 70000), (0, 1, -70000)])
        self.assertTrue(told == (0, 2 ** 140000 + 1, -70000))
        told = total([(1, 1, 70000), (0, 1, -70000)])
        self.assertTrue(told == (1, 2 ** 140000 - 1, -70000))

    def test_drawn(self):
        source = random.Random("totals")
        for turn in range(200):
            terms = [(source.randrange(2), source.getrandbits(40), source.randrange(-60, 60))
                     for place in range(source.randrange(1, 12))]
            told = total(terms)
            self.assertIs(type(told), tuple)
            value = sum(exact(term) for term in terms)
            self.assertEqual(exact(told), value)
            self.assertEqual(told[0], int(value < 0))
            self.assertEqual(told[2], min(term[2] for term in terms))

    def test_four_hundred_terms(self):
        terms = [(place % 2, place, place - 200) for place in range(400)]
        self.assertEqual(exact(total(terms)), sum(exact(term) for term in terms))


class NoughtSigns(unittest.TestCase):
    def test_each_way(self):
        for way in WAYS:
            self.assertEqual(nought_sign(way, []), 0)
            mixed = 1 if way == "down" else 0
            for count in (1, 2, 3, 400):
                self.assertEqual(nought_sign(way, [0] * count), 0)
                self.assertEqual(nought_sign(way, [1] * count), 1)
            for signs in ([0, 1], [1, 0], [0, 0, 1], [1, 1, 0], [0] * 399 + [1], [1] * 399 + [0]):
                self.assertEqual(nought_sign(way, signs), mixed)


class SettledTotals(unittest.TestCase):
    def test_no_terms(self):
        for size in SIZES:
            for way in WAYS:
                self.assertEqual(settled_total(size, way, []), (0, 0))

    def test_against_the_exact_sum(self):
        source = random.Random("settled totals")
        for size in (LEAST, LITTLE, HALF, DOUBLE, QUAD):
            for turn in range(60):
                spread = source.choice((4, 20, 300))
                terms = [(source.randrange(2), source.getrandbits(12),
                          source.randrange(-spread, spread)) for place in range(1 + turn % 5)]
                self.holds(size, terms)

    def holds(self, size, terms):
        for way in WAYS:
            signed = [(term[0], exact(term)) for term in terms]
            told = settled_total(size, way, terms)
            self.assertIs(type(told), tuple)
            self.assertEqual(told, oracle.sum_of(size, way, signed))

    def test_sums_that_are_nought(self):
        for size in SIZES:
            sign = oracle.sign_bit(size)
            for way in WAYS:
                mixed = sign if way == "down" else 0
                self.assertEqual(settled_total(size, way, [(0, 0, 5), (0, 0, 7)]), (0, 0))
                self.assertEqual(settled_total(size, way, [(1, 0, 5), (1, 0, 7)]), (sign, 0))
                self.assertEqual(settled_total(size, way, [(1, 0, 5)]), (sign, 0))
                self.assertEqual(settled_total(size, way, [(1, 0, 5), (0, 0, 7)]), (mixed, 0))
                self.assertEqual(settled_total(size, way, [(1, 2, 5), (0, 1, 6)]), (mixed, 0))

    def test_a_term_far_below_still_counts(self):
        terms = [(0, 1, 0), (0, 1, -11), (0, 1, -70000)]
        self.assertEqual(settled_total(HALF, "even", terms), (0x3C01, 1))
        terms[2] = (1, 1, -70000)
        self.assertEqual(settled_total(HALF, "even", terms), (0x3C00, 1))
        self.assertEqual(settled_total(HALF, "even", terms[:2]), (0x3C00, 1))

    def test_far_beyond_the_top(self):
        self.assertEqual(settled_total(HALF, "even", [(1, 1, 70000)]), (0xFC00, 5))
        self.assertEqual(settled_total(HALF, "up", [(1, 1, 70000)]), (0xFBFF, 5))
        self.assertEqual(settled_total(HALF, "up", [(0, 1, -70000)]), (1, 3))


class Unchanged(unittest.TestCase):
    def test_lists_handed_in_stay_as_they_were(self):
        terms = [(0, 3, 4), (1, 5, 1), (1, 0, -3)]
        kept = list(terms)
        signs = [0, 1, 1]
        total(terms)
        settled_total(HALF, "even", terms)
        nought_sign("down", signs)
        self.assertEqual(terms, kept)
        self.assertEqual(signs, [0, 1, 1])


class Refusals(unittest.TestCase):
    def test_no_way(self):
        for way in ("", "Down", "odd"):
            for signs in ([], [0], [0, 1]):
                with self.assertRaises(NoWay):
                    nought_sign(way, signs)
            for terms in ([], [(0, 1, 0)], [(0, 0, 0)], [(0, 1, 0), (1, 1, 0)]):
                with self.assertRaises(NoWay):
                    settled_total(HALF, way, terms)

    def test_arguments_by_name(self):
        self.assertEqual(total(terms=[(0, 1, 1)]), (0, 1, 1))
        self.assertEqual(nought_sign(way="down", signs=[0, 1]), 1)
        self.assertEqual(settled_total(size=HALF, way="even", terms=[(0, 1, 0)]), (0x3C00, 0))


if __name__ == "__main__":
    unittest.main()
