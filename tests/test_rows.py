import itertools
import random
import unittest

import oracle
from roundmill.errors import Empty, NoBits, NoWay, Unlike
from roundmill.rows import gathered, in_halves, in_turn, summed
from oracle import WAYS
from drawn import DOUBLE, HALF, LEAST, LITTLE, QUAD, SINGLE, SIZES, drawn_bits, no_bits

# HALF's own
ONE, TWO, THREE, MINUS_ONE = 0x3C00, 0x4000, 0x4200, 0xBC00
NOUGHT, MINUS_NOUGHT, ENDLESS, MINUS_ENDLESS, NONE = 0x0000, 0x8000, 0x7C00, 0xFC00, 0x7E00
GREATEST, MINUS_GREATEST = 0x7BFF, 0xFBFF
OTHER_NONES = (0x7C01, 0xFC01, 0xFE00, 0xFFFF)


def halves(size, way, row):
    """Point 20, in halves."""
    if len(row) == 1:
        return row[0], 0
    first, first_flags = halves(size, way, row[:len(row) // 2])
    second, second_flags = halves(size, way, row[len(row) // 2:])
    bits, flags = oracle.added(size, way, first, second)
    return bits, first_flags | second_flags | flags


def turn(size, way, row):
    """Point 20, in turn."""
    steps, flags = row[:1], 0
    for bits in row[1:]:
        step, raised = oracle.added(size, way, steps[-1], bits)
        steps = steps + [step]
        flags |= raised
    return steps, flags


class Summed(unittest.TestCase):
    def test_all_threes_of_the_least_size(self):
        for way in WAYS:
            for row in itertools.product(range(16), repeat=3):
                told = summed(LEAST, way, list(row))
                self.assertEqual(told, oracle.gathered(LEAST, way, [], row), (way, row))

    def test_one_number(self):
        for size in (LEAST, LITTLE):
            for way in WAYS:
                for bits in oracle.every_bits(size):
                    expected = oracle.plain_none(size) if oracle.is_none(size, bits) else bits
                    self.assertEqual(summed(size, way, [bits]), (expected, 0))

    def test_empty_rows(self):
        for size in SIZES:
            for way in WAYS:
                self.assertEqual(summed(size, way, []), (0, 0))
                self.assertEqual(gathered(size, way, [], []), (0, 0))

    def test_sums_that_cancel(self):
        self.assertEqual(summed(HALF, "even", [GREATEST, 1, MINUS_GREATEST]), (1, 0))
        self.assertEqual(summed(HALF, "even", [GREATEST, GREATEST, MINUS_GREATEST]), (GREATEST, 0))
        self.assertEqual(summed(HALF, "even", [GREATEST, GREATEST, 1]), (ENDLESS, 5))
        self.assertEqual(summed(HALF, "even", [ONE, 0x1000, 1]), (0x3C01, 1))
        self.assertEqual(summed(HALF, "even", [ONE, 0x1000]), (ONE, 1))

    def test_noughts(self):
        for way in WAYS:
            mixed = MINUS_NOUGHT if way == "down" else NOUGHT
            self.assertEqual(summed(HALF, way, [NOUGHT] * 5), (NOUGHT, 0))
            self.assertEqual(summed(HALF, way, [MINUS_NOUGHT] * 5), (MINUS_NOUGHT, 0))
            self.assertEqual(summed(HALF, way, [MINUS_NOUGHT] * 5 + [NOUGHT]), (mixed, 0))
            self.assertEqual(summed(HALF, way, [ONE, TWO, 0xC200]), (mixed, 0))
            self.assertEqual(summed(HALF, way, [MINUS_NOUGHT, ONE, MINUS_ONE]), (mixed, 0))

    def test_nones_and_endless_ones(self):
        for way in WAYS:
            for none in (NONE,) + OTHER_NONES:
                self.assertEqual(summed(HALF, way, [none]), (NONE, 0))
                self.assertEqual(summed(HALF, way, [ENDLESS, none, MINUS_ENDLESS]), (NONE, 0))
            self.assertEqual(summed(HALF, way, [ENDLESS, ONE, MINUS_ENDLESS]), (NONE, 16))
            self.assertEqual(summed(HALF, way, [ENDLESS, ONE, ENDLESS]), (ENDLESS, 0))
            self.assertEqual(summed(HALF, way, [ONE, MINUS_ENDLESS, GREATEST]), (MINUS_ENDLESS, 0))

    def test_drawn_rows_in_any_order(self):
        source = random.Random("summed")
        for size in (LITTLE, HALF, SINGLE, DOUBLE):
            finite = [bits for bits in drawn_bits(size) if oracle.is_finite(size, bits)]
            for turn_ in range(12):
                row = [source.choice(finite) for place in range(source.randrange(2, 9))]
                row += [bits ^ oracle.sign_bit(size) for bits in row[1:]]
                for way in WAYS:
                    told = summed(size, way, row)
                    self.assertEqual(told, oracle.gathered(size, way, [], row))
                    self.assertEqual(summed(size, way, row[::-1]), told)
                    self.assertEqual(summed(size, way, source.sample(row, len(row))), told)

    def test_two_hundred_numbers(self):
        for size in (HALF, QUAD):
            row = [bits for bits in drawn_bits(size, 260) if oracle.is_finite(size, bits)][:200]
            self.assertEqual(len(row), 200)
            for way in WAYS:
                self.assertEqual(summed(size, way, row), oracle.gathered(size, way, [], row))
                told = gathered(size, way, row, row[::-1])
                pairs = list(zip(row, row[::-1]))
                self.assertEqual(told, oracle.gathered(size, way, pairs))


class Gathered(unittest.TestCase):
    def test_all_pairs_of_the_least_size(self):
        for way in WAYS:
            for a, b in itertools.product(range(16), repeat=2):
                self.assertEqual(gathered(LEAST, way, [a], [b]), oracle.multiplied(LEAST, way, a, b))

    def test_drawn_rows_of_little_sizes(self):
        source = random.Random("gathered")
        for size in (LEAST, (3, 2), LITTLE):
            every = oracle.every_bits(size)
            for turn_ in range(400):
                count = source.randrange(1, 5)
                xs = [source.choice(every) for place in range(count)]
                ys = [source.choice(every) for place in range(count)]
                for way in WAYS:
                    told = gathered(size, way, xs, ys)
                    self.assertIs(type(told), tuple)
                    self.assertEqual(told, oracle.gathered(size, way, list(zip(xs, ys))), (xs, ys))
                    self.assertEqual(gathered(size, way, xs[::-1], ys[::-1]), told)

    def test_it_rounds_once(self):
        self.assertEqual(gathered(HALF, "even", [0x3C01, 0xBC02], [0x3C01, ONE]), (0x0010, 0))
        told = gathered(HALF, "even", [GREATEST, GREATEST], [GREATEST, MINUS_GREATEST])
        self.assertEqual(told, (NOUGHT, 0))

    def test_noughts(self):
        for way in WAYS:
            mixed = MINUS_NOUGHT if way == "down" else NOUGHT
            self.assertEqual(gathered(HALF, way, [NOUGHT], [MINUS_ONE]), (MINUS_NOUGHT, 0))
            self.assertEqual(gathered(HALF, way, [NOUGHT] * 2, [MINUS_ONE] * 2), (MINUS_NOUGHT, 0))
            self.assertEqual(gathered(HALF, way, [NOUGHT] * 2, [MINUS_ONE, ONE]), (mixed, 0))
            self.assertEqual(gathered(HALF, way, [TWO, TWO], [MINUS_ONE, ONE]), (mixed, 0))

    def test_what_goes_first(self):
        for way in WAYS:
            for none in (NONE,) + OTHER_NONES:
                told = gathered(HALF, way, [NOUGHT, ONE], [ENDLESS, none])
                self.assertEqual(told, (NONE, 0))
                told = gathered(HALF, way, [ENDLESS, ENDLESS, none], [ONE, MINUS_ONE, ONE])
                self.assertEqual(told, (NONE, 0))
            self.assertEqual(gathered(HALF, way, [ONE, NOUGHT], [ONE, ENDLESS]), (NONE, 16))
            self.assertEqual(gathered(HALF, way, [ENDLESS, NOUGHT], [ONE, ENDLESS]), (NONE, 16))
            self.assertEqual(gathered(HALF, way, [ENDLESS, ONE], [ONE, MINUS_ENDLESS]), (NONE, 16))
            told = gathered(HALF, way, [ENDLESS, MINUS_ONE, TWO], [ONE, MINUS_ENDLESS, TWO])
            self.assertEqual(told, (ENDLESS, 0))


class InTurn(unittest.TestCase):
    def test_drawn_rows(self):
        source = random.Random("in turn")
        for size in (LEAST, LITTLE, HALF):
            every = oracle.every_bits(size)
            for turn_ in range(150):
                row = [source.choice(every) for place in range(source.randrange(1, 9))]
                for way in WAYS:
                    told = in_turn(size, way, row)
                    self.assertIs(type(told), tuple)
                    self.assertIs(type(told[0]), list)
                    self.assertEqual(told, turn(size, way, row))

    def test_known(self):
        self.assertEqual(in_turn(HALF, "even", [ONE, TWO, 1]), ([ONE, THREE, THREE], 1))
        told = in_turn(HALF, "even", [GREATEST, GREATEST, MINUS_ENDLESS, ONE])
        self.assertEqual(told, ([GREATEST, ENDLESS, NONE, NONE], 21))

    def test_empty_and_one(self):
        for way in WAYS:
            self.assertEqual(in_turn(HALF, way, []), ([], 0))
            for bits in (ONE, MINUS_NOUGHT, ENDLESS, NONE) + OTHER_NONES:
                self.assertEqual(in_turn(HALF, way, [bits]), ([bits], 0))

    def test_a_first_none_keeps_its_sign_and_figures(self):
        for none in OTHER_NONES:
            self.assertEqual(in_turn(HALF, "even", [none, ONE]), ([none, NONE], 0))

    def test_lists_stay_apart(self):
        row = [ONE]
        steps = in_turn(HALF, "even", row)[0]
        steps.append(TWO)
        self.assertEqual(row, [ONE])
        row = [ONE, TWO]
        steps = in_turn(HALF, "even", row)[0]
        row[0] = THREE
        self.assertEqual(steps, [ONE, THREE])
        steps[0] = NONE
        self.assertEqual(row, [THREE, TWO])


class InHalves(unittest.TestCase):
    def test_drawn_rows(self):
        source = random.Random("in halves")
        for size in (LEAST, LITTLE, HALF):
            every = oracle.every_bits(size)
            for turn_ in range(150):
                row = [source.choice(every) for place in range(source.randrange(1, 12))]
                for way in WAYS:
                    told = in_halves(size, way, row)
                    self.assertIs(type(told), tuple)
                    self.assertEqual(told, halves(size, way, row))

    def test_rows_of_three_are_cut_behind_the_first(self):
        # (1) + (2 ** -11 + 2 ** -11) is exact, in turn each part is lost.
        row = [ONE, 0x1000, 0x1000]
        self.assertEqual(in_halves(HALF, "even", row), (0x3C01, 0))
        self.assertEqual(in_turn(HALF, "even", row), ([ONE, ONE, ONE], 1))

    def test_one_number(self):
        for way in WAYS:
            for bits in (ONE, MINUS_NOUGHT, ENDLESS, NONE) + OTHER_NONES:
                self.assertEqual(in_halves(HALF, way, [bits]), (bits, 0))

    def test_the_flags_of_all_additions(self):
        row = [GREATEST, GREATEST, MINUS_ENDLESS, ONE]
        self.assertEqual(in_halves(HALF, "even", row), (NONE, 21))

    def test_two_hundred_numbers(self):
        row = [bits for bits in drawn_bits(HALF, 260) if oracle.is_finite(HALF, bits)][:200]
        for way in WAYS:
            self.assertEqual(in_halves(HALF, way, row), halves(HALF, way, row))
            self.assertEqual(in_turn(HALF, way, row), turn(HALF, way, row))


class Unchanged(unittest.TestCase):
    def test_rows_handed_in_stay_as_they_were(self):
        xs, ys = [ONE, TWO, NONE], [THREE, GREATEST, ONE]
        gathered(HALF, "even", xs, ys)
        summed(HALF, "even", xs)
        in_turn(HALF, "even", xs)
        in_halves(HALF, "even", xs)
        self.assertEqual((xs, ys), ([ONE, TWO, NONE], [THREE, GREATEST, ONE]))


class Refusals(unittest.TestCase):
    def test_no_way_goes_first(self):
        wrong = 2 ** 16
        for way in ("", "Even", "odd"):
            for row in ([], [ONE], [wrong], [NONE], [ONE, wrong]):
                for call in (lambda: summed(HALF, way, row), lambda: in_turn(HALF, way, row),
                             lambda: in_halves(HALF, way, row), lambda: gathered(HALF, way, row, row),
                             lambda: gathered(HALF, way, row, row + [ONE])):
                    with self.assertRaises(NoWay):
                        call()

    def test_unlike(self):
        wrong = 2 ** 16
        for xs, ys in (([], [ONE]), ([ONE], []), ([ONE, ONE], [ONE]), ([wrong], []), ([], [-1]),
                       ([NONE], [ONE, wrong]), ([wrong, ONE], [ONE])):
            with self.assertRaises(Unlike):
                gathered(HALF, "even", xs, ys)

    def test_no_bits_at_whatever_place(self):
        for wrong in no_bits(HALF):
            for fill in (ONE, NOUGHT, ENDLESS, NONE):
                for place in range(3):
                    row = [fill] * 3
                    row[place] = wrong
                    for call in (lambda: summed(HALF, "even", row), lambda: in_turn(HALF, "even", row),
                                 lambda: in_halves(HALF, "even", row),
                                 lambda: gathered(HALF, "even", row, [fill] * 3),
                                 lambda: gathered(HALF, "even", [fill] * 3, row)):
                        with self.assertRaises(NoBits):
                            call()
            for call in (lambda: summed(HALF, "even", [wrong]), lambda: in_turn(HALF, "even", [wrong]),
                         lambda: in_halves(HALF, "even", [wrong])):
                with self.assertRaises(NoBits):
                    call()

    def test_an_empty_row_has_no_halves(self):
        for way in WAYS:
            with self.assertRaises(Empty):
                in_halves(HALF, way, [])

    def test_arguments_by_name(self):
        self.assertEqual(gathered(size=HALF, way="up", xs=[ONE], ys=[TWO]), (TWO, 0))
        self.assertEqual(summed(size=HALF, way="up", xs=[ONE]), (ONE, 0))
        self.assertEqual(in_turn(size=HALF, way="up", xs=[ONE]), ([ONE], 0))
        self.assertEqual(in_halves(size=HALF, way="up", xs=[ONE]), (ONE, 0))


if __name__ == "__main__":
    unittest.main()
