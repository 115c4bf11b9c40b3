import unittest

import oracle
from roundmill.errors import NoBits, NoRank
from roundmill.order import above, below, compared, rank
from drawn import DOUBLE, HALF, LEAST, LITTLE, QUAD, SIZES, SMALL_SIZES, drawn_bits, no_bits


def nones(size):
    end = oracle.end_code(size)
    codes = {end + 1, oracle.plain_none(size), end + 2 ** size[1] - 1}
    return [code + sign for code in codes for sign in (0, oracle.sign_bit(size))]


def place(size, bits):
    """The value, endless ones beyond all finite ones."""
    if oracle.is_endless(size, bits):
        beyond = 2 * oracle.code_value(size, oracle.end_code(size))
        return -beyond if oracle.sign_of(size, bits) else beyond
    return oracle.value(size, bits)


class Ranks(unittest.TestCase):
    def test_known(self):
        told = {
            0x0000: 0, 0x8000: 0, 0x0001: 1, 0x8001: -1, 0x3C00: 0x3C00, 0xBC00: -0x3C00,
            0x7BFF: 0x7BFF, 0xFBFF: -0x7BFF, 0x7C00: 0x7C00, 0xFC00: -0x7C00,
        }
        for bits, number in told.items():
            self.assertEqual(rank(HALF, bits), number)

    def test_every_number_of_little_sizes(self):
        for size in SMALL_SIZES:
            for bits in oracle.numbers(size):
                code = oracle.code_of(size, bits)
                self.assertEqual(rank(size, bits), -code if oracle.sign_of(size, bits) else code)

    def test_drawn_numbers(self):
        for size in SIZES:
            for bits in drawn_bits(size):
                if not oracle.is_none(size, bits):
                    code = bits % oracle.sign_bit(size)
                    self.assertEqual(rank(size, bits), code if code == bits else -code)

    def test_a_none_has_no_rank(self):
        for size in SIZES:
            for bits in nones(size):
                for function in (rank, above, below):
                    with self.assertRaises(NoRank):
                        function(size, bits)


class Compared(unittest.TestCase):
    def test_all_pairs_of_little_sizes_by_their_values(self):
        words = {-1: "less", 0: "same", 1: "more"}
        for size in (LEAST, (2, 2), (3, 2)):
            for a in oracle.every_bits(size):
                for b in oracle.every_bits(size):
                    told = compared(size, a, b)
                    if oracle.is_none(size, a) or oracle.is_none(size, b):
                        self.assertEqual(told, "apart")
                    else:
                        expected = words[oracle.order(place(size, a), place(size, b))]
                        self.assertEqual(told, expected, (size, a, b))

    def test_ends_and_noughts(self):
        for size in SIZES:
            end = oracle.end_code(size)
            sign = oracle.sign_bit(size)
            self.assertEqual(compared(size, 0, sign), "same")
            self.assertEqual(compared(size, sign, 0), "same")
            self.assertEqual(compared(size, sign, 1), "less")
            self.assertEqual(compared(size, 0, sign + 1), "more")
            self.assertEqual(compared(size, end - 1, end), "less")
            self.assertEqual(compared(size, sign + end - 1, sign + end), "more")
            self.assertEqual(compared(size, sign + end, end), "less")
            self.assertEqual(compared(size, end, end), "same")
            self.assertEqual(compared(size, sign + end, sign + end), "same")

    def test_nones_are_apart(self):
        for size in SIZES:
            for none in nones(size):
                for other in (0, 1, oracle.end_code(size), none, oracle.plain_none(size)):
                    self.assertEqual(compared(size, none, other), "apart")
                    self.assertEqual(compared(size, other, none), "apart")

    def test_no_bits_beside_a_none(self):
        for size in SIZES:
            none = oracle.plain_none(size)
            for wrong in no_bits(size):
                for pair in ((none, wrong), (wrong, none), (0, wrong), (wrong, 0), (wrong, wrong)):
                    with self.assertRaises(NoBits):
                        compared(size, *pair)


class Neighbours(unittest.TestCase):
    def test_all_numbers_of_little_sizes_by_their_values(self):
        for size in SMALL_SIZES:
            every = oracle.numbers(size)
            for bits in every:
                here = place(size, bits)
                greater = [b for b in every if place(size, b) > here]
                lesser = [b for b in every if place(size, b) < here]
                self.near(size, bits, above(size, bits), greater, min, oracle.sign_bit(size))
                self.near(size, bits, below(size, bits), lesser, max, 0)

    def near(self, size, bits, told, others, first, nought):
        if not others:
            self.assertEqual(told, bits)
            return
        value = first(place(size, b) for b in others)
        if value == 0:
            self.assertEqual(told, nought)
        else:
            self.assertEqual([told], [b for b in others if place(size, b) == value])

    def test_round_nought(self):
        for size in SIZES:
            sign = oracle.sign_bit(size)
            self.assertEqual(above(size, 0), 1)
            self.assertEqual(above(size, sign), 1)
            self.assertEqual(below(size, 0), sign + 1)
            self.assertEqual(below(size, sign), sign + 1)
            self.assertEqual(above(size, sign + 1), sign)
            self.assertEqual(below(size, 1), 0)

    def test_at_the_ends(self):
        for size in SIZES:
            end = oracle.end_code(size)
            sign = oracle.sign_bit(size)
            self.assertEqual(above(size, end), end)
            self.assertEqual(above(size, end - 1), end)
            self.assertEqual(below(size, end), end - 1)
            self.assertEqual(below(size, sign + end), sign + end)
            self.assertEqual(below(size, sign + end - 1), sign + end)
            self.assertEqual(above(size, sign + end), sign + end - 1)

    def test_known(self):
        self.assertEqual(above(DOUBLE, 0x3FF0000000000000), 0x3FF0000000000001)
        self.assertEqual(below(DOUBLE, 0x3FF0000000000000), 0x3FEFFFFFFFFFFFFF)
        self.assertEqual(above(DOUBLE, 0xBFF0000000000000), 0xBFEFFFFFFFFFFFFF)
        self.assertEqual(below(DOUBLE, 0xBFF0000000000000), 0xBFF0000000000001)
        self.assertEqual(above(QUAD, 2 ** 112 - 1), 2 ** 112)


class Refusals(unittest.TestCase):
    def test_no_bits(self):
        for size in SIZES:
            for bits in no_bits(size):
                for function in (rank, above, below):
                    with self.assertRaises(NoBits):
                        function(size, bits)

    def test_no_bits_goes_ahead_of_no_rank(self):
        # Looked at by their low bits alone, these would be nones.
        for size in SIZES:
            end = 2 ** (size[0] + size[1] + 1)
            for none in nones(size):
                for bits in (none + end, none - end, none - 3 * end):
                    for function in (rank, above, below):
                        with self.assertRaises(NoBits):
                            function(size, bits)

    def test_arguments_by_name(self):
        self.assertEqual(rank(size=LITTLE, bits=5), 5)
        self.assertEqual(compared(size=LITTLE, a=5, b=4), "more")
        self.assertEqual(above(size=LITTLE, bits=5), 6)
        self.assertEqual(below(size=LITTLE, bits=5), 4)


if __name__ == "__main__":
    unittest.main()
