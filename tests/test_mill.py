import random
import unittest
from fractions import Fraction

import oracle
from roundmill.errors import (
    MillError, NoBits, NoName, NoRow, NoSize, NoText, NoWay, Stopped,
)
from roundmill.mill import Mill, run
from roundmill.order import compared
from roundmill.writing import shown
from oracle import WAYS
from drawn import DOUBLE, HALF, LEAST, LITTLE, QUAD, SINGLE, SIZES

# HALF's own
ONE, TWO, THREE, MINUS_ONE = 0x3C00, 0x4000, 0x4200, 0xBC00
NOUGHT, MINUS_NOUGHT, ENDLESS, MINUS_ENDLESS, NONE = 0x0000, 0x8000, 0x7C00, 0xFC00, 0x7E00
GREATEST = 0x7BFF


def filled(way="even", **numbers):
    """A mill of HALF with numbers by their bits, and a log that is counted from here."""
    mill = Mill(HALF)
    for name, bits in numbers.items():
        mill.do(f"bits {name} {bits}")
    mill.do(f"way {way}")
    return mill


def state(mill):
    names = mill.names()
    numbers = [mill.bits_of(name) for name in names]
    return mill.size_now(), mill.way_now(), names, numbers, mill.raised(), mill.log()


class MillTest(unittest.TestCase):
    def puts(self, mill, row, name, bits, flags):
        """The row puts the bits under the name, logs that with the flags, answers nothing."""
        log, raised = mill.log(), mill.raised()
        self.assertEqual(mill.do(row), "", row)
        self.assertEqual(mill.bits_of(name), bits, row)
        self.assertEqual(mill.log(), log + [(name, bits, flags)], row)
        self.assertIs(type(mill.log()[-1]), tuple)
        self.assertEqual(mill.raised(), raised | flags, row)

    def answers(self, mill, row, text):
        """The row answers the text and changes nothing."""
        before = state(mill)
        self.assertEqual(mill.do(row), text, row)
        self.assertEqual(state(mill), before)

    def refused(self, mill, row, refusal):
        before = state(mill)
        with self.assertRaises(refusal, msg=row):
            mill.do(row)
        self.assertEqual(state(mill), before, row)


class Fresh(MillTest):
    def test_a_new_mill(self):
        for size in SIZES:
            mill = Mill(size)
            self.assertEqual(state(mill), (size, "even", [], [], 0, []))
            self.assertEqual(mill.do("flags"), "")
        self.assertEqual(Mill(size=HALF).size_now(), HALF)

    def test_two_mills_do_not_know_of_each_other(self):
        first, second = Mill(HALF), Mill(HALF)
        first.do("put a 0.1")
        first.do("way up")
        first.do("size 8 23")
        self.assertEqual(state(second), (HALF, "even", [], [], 0, []))
        self.assertEqual(state(Mill(HALF)), (HALF, "even", [], [], 0, []))


class Puts(MillTest):
    def test_put(self):
        mill = Mill(HALF)
        self.puts(mill, "put a 1", "a", ONE, 0)
        self.puts(mill, "put b 0.1", "b", 0x2E66, 1)
        self.puts(mill, "put c -endless", "c", MINUS_ENDLESS, 0)
        self.puts(mill, "put d none", "d", NONE, 0)
        self.puts(mill, "put e 1e9", "e", ENDLESS, 5)
        self.puts(mill, "put f 1e-9", "f", NOUGHT, 3)
        self.puts(mill, "put g -0", "g", MINUS_NOUGHT, 0)
        mill.do("way up")
        self.puts(mill, "put b 0.1", "b", 0x2E67, 1)
        self.assertEqual(mill.names(), ["a", "b", "c", "d", "e", "f", "g"])

    def test_bits(self):
        mill = Mill(HALF)
        for bits in (0, 1, ONE, ENDLESS, NONE, 0x7C01, 0xFFFF, 65535):
            self.puts(mill, f"bits a {bits}", "a", bits, 0)
        self.puts(mill, "bits a " + "7".zfill(40), "a", 7, 0)
        self.puts(Mill(QUAD), f"bits a {2 ** 128 - 1}", "a", 2 ** 128 - 1, 0)

    def test_same_and_minus(self):
        for bits in (0, 0x8000, 1, ONE, MINUS_ONE, ENDLESS, MINUS_ENDLESS, NONE, 0x7C01, 0xFFFF):
            mill = filled(a=bits)
            self.puts(mill, "same n a", "n", bits, 0)
            self.puts(mill, "minus m a", "m", bits ^ 0x8000, 0)
            self.puts(mill, "minus a a", "a", bits ^ 0x8000, 0)
            self.puts(mill, "same a a", "a", bits ^ 0x8000, 0)

    def test_deeds(self):
        for way in WAYS:
            for a, b, c in ((ONE, THREE, MINUS_ONE), (0x3C01, 0x3C01, 0xBC02), (GREATEST, GREATEST, ONE),
                            (NOUGHT, ENDLESS, NONE), (ONE, NOUGHT, ENDLESS), (MINUS_ONE, 1, 1),
                            (0x7C01, ONE, TWO), (0x4100, 0x8001, 0x3555)):
                for verb, deed in (("add", oracle.added), ("take", oracle.taken),
                                   ("mul", oracle.multiplied), ("div", oracle.divided)):
                    bits, flags = deed(HALF, way, a, b)
                    self.puts(filled(way, a=a, b=b), f"{verb} n a b", "n", bits, flags)
                    bits, flags = deed(HALF, way, b, a)
                    self.puts(filled(way, a=a, b=b), f"{verb} a b a", "a", bits, flags)
                bits, flags = oracle.rooted(HALF, way, a)
                self.puts(filled(way, a=a), "root n a", "n", bits, flags)
                bits, flags = oracle.wholed(HALF, way, a)
                self.puts(filled(way, a=a), "whole n a", "n", bits, flags)
                bits, flags = oracle.fused(HALF, way, a, b, c)
                self.puts(filled(way, a=a, b=b, c=c), "fuse n a b c", "n", bits, flags)
                self.puts(filled(way, a=a, b=b, c=c), "fuse b a b c", "b", bits, flags)

    def test_known_deeds(self):
        mill = filled(a=ONE, b=THREE, c=NOUGHT)
        self.puts(mill, "add n a b", "n", 0x4400, 0)
        self.puts(mill, "take n a b", "n", 0xC000, 0)
        self.puts(mill, "mul n b b", "n", 0x4880, 0)
        self.puts(mill, "div n a b", "n", 0x3555, 1)
        self.puts(mill, "div n a c", "n", ENDLESS, 8)
        self.puts(mill, "mul n n c", "n", NONE, 16)
        self.puts(mill, "root n n", "n", NONE, 0)
        self.puts(mill, "fuse n b b a", "n", 0x4900, 0)
        self.puts(mill, "div n b n", "n", 0x34CD, 1)
        self.puts(mill, "whole n n", "n", NOUGHT, 1)

    def test_one_name_on_both_sides(self):
        mill = filled(a=TWO)
        self.puts(mill, "add a a a", "a", 0x4400, 0)
        self.puts(mill, "mul a a a", "a", 0x4C00, 0)
        self.puts(mill, "fuse a a a a", "a", 0x5C40, 0)
        self.puts(mill, "sum a a a a", "a", 0x6260, 0)
        self.assertEqual(mill.names(), ["a"])

    def test_sum_turn_and_halves(self):
        mill = filled(a=ONE, b=0x1000)
        self.puts(mill, "sum n a b b", "n", 0x3C01, 0)
        self.puts(mill, "turn n a b b", "n", ONE, 1)
        self.puts(mill, "halves n a b b", "n", 0x3C01, 0)
        self.puts(mill, "halves n b b a", "n", ONE, 1)
        for verb in ("sum", "turn", "halves"):
            self.puts(mill, f"{verb} n a", "n", ONE, 0)
            self.puts(mill, f"{verb} n" + " a" * 20, "n", 0x4D00, 0)

    def test_a_none_alone(self):
        for none in (0x7C01, 0xFFFF):
            mill = filled(a=none)
            self.puts(mill, "sum n a", "n", NONE, 0)
            self.puts(mill, "turn n a", "n", none, 0)
            self.puts(mill, "halves n a", "n", none, 0)

    def test_dot(self):
        mill = filled(a=ONE, b=TWO, c=THREE, d=NOUGHT, e=ENDLESS)
        self.puts(mill, "dot n b c", "n", 0x4600, 0)
        self.puts(mill, "dot n a b b c", "n", 0x4800, 0)
        self.puts(mill, "dot n a b c c", "n", 0x4980, 0)
        self.puts(mill, "dot n a e d b", "n", ENDLESS, 0)
        self.puts(mill, "dot n a b d e", "n", NONE, 16)
        self.puts(mill, "dot n" + " a b" * 10, "n", 0x4D00, 0)
        mill = filled(a=0x3C01, b=0xBC02, c=ONE)
        self.puts(mill, "dot n a a b c", "n", 0x0010, 0)

    def test_a_name_that_gets_a_new_number_keeps_its_place(self):
        mill = Mill(HALF)
        for row in ("put b 1", "put a 2", "put b 3", "add c a b", "put a 0.1"):
            mill.do(row)
        self.assertEqual(mill.names(), ["b", "a", "c"])
        self.assertEqual(mill.bits_of("b"), THREE)
        told = [("b", ONE, 0), ("a", TWO, 0), ("b", THREE, 0), ("c", 0x4500, 0), ("a", 0x2E66, 1)]
        self.assertEqual(mill.log(), told)


class Answers(MillTest):
    def test_show(self):
        mill = filled(a=0x2E66, b=MINUS_ENDLESS, c=0xFFFF, d=MINUS_NOUGHT, e=1)
        for name, text in (("a", "0.1"), ("b", "-endless"), ("c", "none"), ("d", "-0"), ("e", "6e-8")):
            self.answers(mill, f"show {name}", text)

    def test_less(self):
        mill = filled(a=ONE, b=MINUS_ONE, c=NONE, d=NOUGHT, e=MINUS_NOUGHT)
        for row, text in (("a b", "more"), ("b a", "less"), ("a a", "same"), ("d e", "same"),
                          ("a c", "apart"), ("c c", "apart")):
            self.answers(mill, f"less {row}", text)

    def test_flags_and_calm(self):
        mill = filled(a=ONE, b=NOUGHT, c=THREE, e=ENDLESS)
        self.answers(mill, "flags", "")
        mill.do("div n a b")
        self.answers(mill, "flags", "pole")
        mill.do("div n a c")
        self.answers(mill, "flags", "inexact pole")
        mill.do("mul n b e")
        mill.do("put n 1e-9")
        self.answers(mill, "flags", "inexact small pole wrong")
        mill.do("put n 1e9")
        self.answers(mill, "flags", "inexact small great pole wrong")
        log, names = mill.log(), mill.names()
        self.assertEqual(mill.do("calm"), "")
        self.assertEqual((mill.raised(), mill.log(), mill.names()), (0, log, names))
        self.answers(mill, "flags", "")
        self.answers(mill, "calm", "")


class Turns(MillTest):
    def test_way(self):
        mill = Mill(HALF)
        for way in WAYS:
            self.assertEqual(mill.do(f"way {way}"), "")
            self.assertEqual(mill.way_now(), way)
            self.assertEqual((mill.log(), mill.raised(), mill.names()), ([], 0, []))

    def test_each_deed_goes_by_the_way(self):
        told = {"even": 0x3555, "away": 0x3555, "nought": 0x3555, "up": 0x3556, "down": 0x3555}
        for way, bits in told.items():
            self.puts(filled(way, a=ONE, b=THREE), "div n a b", "n", bits, 1)
        told = {"even": NOUGHT, "down": MINUS_NOUGHT}
        for way, bits in told.items():
            for row in ("take n a a", "sum n a b", "turn n a b", "halves n a b", "dot n a a a b"):
                self.puts(filled(way, a=ONE, b=MINUS_ONE), row, "n", bits, 0)

    def test_size_without_numbers(self):
        mill = Mill(HALF)
        self.assertEqual(mill.do("size 11 52"), "")
        self.assertEqual(state(mill), (DOUBLE, "even", [], [], 0, []))
        self.assertIs(type(mill.size_now()), tuple)
        mill.do("size 0008 0023")
        self.assertEqual(mill.size_now(), SINGLE)
        for exponent, figures in ((2, 1), (15, 112), (2, 112), (15, 1)):
            mill.do(f"size {exponent} {figures}")
            self.assertEqual(mill.size_now(), (exponent, figures))

    def test_size_changes_each_number_in_order(self):
        mill = Mill(DOUBLE)
        for row in ("put c 1", "put a 0.1", "put b 1e300", "put d -none", "put e -endless", "put f 1e-300",
                    "put a 0.2", "put g -0"):
            mill.do(row)
        mill.do("calm")
        log = mill.log()
        self.assertEqual(mill.do("size 5 10"), "")
        entries = [
            ("c", ONE, 0), ("a", 0x3266, 1), ("b", ENDLESS, 5), ("d", NONE, 0),
            ("e", MINUS_ENDLESS, 0), ("f", NOUGHT, 3), ("g", MINUS_NOUGHT, 0),
        ]
        self.assertEqual(mill.log(), log + entries)
        self.assertEqual(mill.names(), [entry[0] for entry in entries])
        self.assertEqual([mill.bits_of(entry[0]) for entry in entries], [entry[1] for entry in entries])
        self.assertEqual(mill.raised(), 7)
        self.assertEqual(mill.size_now(), HALF)

    def test_size_goes_by_the_mill_s_way(self):
        for way in WAYS:
            mill = Mill(DOUBLE)
            for row in ("put a 0.1", "put b -0.1", "put c 1e9", "put d -1e9", f"way {way}", "calm", "size 5 10"):
                mill.do(row)
            for name, text in (("a", "0.1"), ("b", "-0.1"), ("c", "1e9"), ("d", "-1e9")):
                double = oracle.rounded(DOUBLE, "even", Fraction(text))[0]
                bits, flags = oracle.rounded(HALF, way, oracle.value(DOUBLE, double))
                self.assertEqual(mill.bits_of(name), bits)
                self.assertIn((name, bits, flags), mill.log()[-4:])
            self.assertEqual(mill.way_now(), way)

    def test_size_wider_and_back(self):
        mill = filled(a=ONE, b=0x8001, c=GREATEST, d=MINUS_ENDLESS, e=MINUS_NOUGHT)
        before = [mill.bits_of(name) for name in mill.names()]
        for row in ("size 15 112", "size 5 10", "size 5 10"):
            mill.do(row)
        self.assertEqual([mill.bits_of(name) for name in mill.names()], before)
        self.assertEqual(mill.raised(), 0)
        self.assertEqual(len(mill.log()), 5 + 15)

    def test_a_none_s_sign_and_figures_are_lost_to_a_size(self):
        mill = filled(a=0xFFFF)
        mill.do("size 5 10")
        self.assertEqual(mill.log(), [("a", 0xFFFF, 0), ("a", NONE, 0)])

    def test_later_rows_are_done_in_the_new_size(self):
        mill = filled(a=ONE, b=THREE)
        mill.do("size 8 23")
        self.puts(mill, "div n a b", "n", 0x3EAAAAAB, 1)
        self.puts(mill, "bits m 65536", "m", 65536, 0)
        self.answers(mill, "show n", "0.33333334")


class Refusals(MillTest):
    def mill(self):
        mill = filled("up", a=ONE, b=THREE, c=NONE)
        mill.do("div d a b")
        return mill

    def test_no_row(self):
        for row in ("", " ", "x", "add", "add n a", "add n a b c", "Add n a b", "add  n a b", "add n a b ",
                    " add n a b", "add N a b", "add n a1 b", "show", "show a b", "show abcdefghi", "size 5",
                    "size 5 10 2", "size x 10", "size 12345 10", "size -5 10", "way", "way up down", "put n",
                    "put n 1 2", "bits n", "bits n x", "bits n -1", "bits n " + "1" * 41, "sum n", "dot n a",
                    "dot n a b a", "sum n" + " a" * 21, "flags a", "calm a", "less a", "less a b c",
                    "root n a b", "whole n", "fuse n a b", "put n " + "1" * 595):
            self.refused(self.mill(), row, NoRow)

    def test_no_name(self):
        for row in ("show x", "less x a", "less a x", "less x y", "same n x", "minus n x", "add n x a",
                    "add n a x", "add x x a", "take n a x", "mul n x x", "div n a x", "root n x", "whole n x",
                    "fuse n x a b", "fuse n a x b", "fuse n a b x", "sum n x", "sum n a b x", "turn n a x",
                    "halves n x a", "dot n a x", "dot n x a", "add n n a", "show show"):
            self.refused(self.mill(), row, NoName)

    def test_no_row_goes_ahead_of_no_name(self):
        for row in ("show x y", "add n x", "add n x A", "dot n x y z", "sum n" + " x" * 21, "add n x  y"):
            self.refused(self.mill(), row, NoRow)

    def test_no_way(self):
        for row in ("way x", "way Even", "way odd", "way 1", "way evens"):
            self.refused(self.mill(), row, NoWay)

    def test_no_size(self):
        for row in ("size 1 10", "size 16 10", "size 5 0", "size 5 113", "size 0 0", "size 9999 9999",
                    "size 1 113", "size 0001 0010"):
            self.refused(self.mill(), row, NoSize)

    def test_no_text(self):
        for row in ("put n x", "put a 1.", "put a .5", "put n 1E5", "put n 1e12345", "put n " + "1" * 401,
                    "put n Endless", "put n --1"):
            self.refused(self.mill(), row, NoText)
        mill = self.mill()
        mill.do("put n " + "1" * 400)
        self.assertEqual(mill.bits_of("n"), ENDLESS)

    def test_no_bits(self):
        for row in ("bits n 65536", "bits a 65537", "bits n " + "9" * 40):
            self.refused(self.mill(), row, NoBits)

    def test_bits_of(self):
        mill = self.mill()
        for name in ("x", "", "A", "aa", "a ", "abcdefghi", "add"):
            with self.assertRaises(NoName):
                mill.bits_of(name)
        self.assertEqual(mill.bits_of(name="a"), ONE)
        with self.assertRaises(NoName):
            Mill(HALF).bits_of("a")


class Told(MillTest):
    def test_lists_told_are_the_asker_s_own(self):
        mill = filled(a=ONE, b=TWO)
        before = state(mill)
        log, names = mill.log(), mill.names()
        self.assertIs(type(log), list)
        self.assertIs(type(names), list)
        log.append(("x", 1, 0))
        log[0] = None
        names.append("x")
        names[0] = "y"
        self.assertEqual(state(mill), before)
        with self.assertRaises(NoName):
            mill.bits_of("x")

    def test_what_was_told_does_not_change_later(self):
        mill = filled(a=ONE)
        log, names = mill.log(), mill.names()
        mill.do("put b 1")
        mill.do("size 8 23")
        self.assertEqual((log, names), ([("a", ONE, 0)], ["a"]))

    def test_do_by_name(self):
        mill = Mill(HALF)
        self.assertEqual(mill.do(row="put a 1"), "")


class Run(unittest.TestCase):
    ROWS = ["put a 1", "put b 3", "div c a b", "show c", "less a b", "flags", "size 8 23", "show c", "calm",
            "flags", "way down", "take d a a", "show d"]

    def test_known(self):
        told = run(HALF, self.ROWS)
        self.assertIs(type(told), tuple)
        answers, log, flags = told
        self.assertEqual(answers, ["", "", "", "0.3333", "less", "inexact", "", "0.33325195", "", "", "", "",
                                   "-0"])
        self.assertEqual(log, [
            ("a", ONE, 0), ("b", THREE, 0), ("c", 0x3555, 1), ("a", 0x3F800000, 0), ("b", 0x40400000, 0),
            ("c", 0x3EAAA000, 0), ("d", 0x80000000, 0),
        ])
        self.assertEqual(flags, 0)

    def test_no_rows(self):
        for size in SIZES:
            self.assertEqual(run(size, []), ([], [], 0))

    def test_flags_kept_at_the_end(self):
        self.assertEqual(run(HALF, ["put a 0.1", "put b 1e9"])[2], 5)
        self.assertEqual(run(HALF, ["put a 0.1", "calm", "put b 1e-9"])[2], 3)

    def test_the_same_as_a_mill_does(self):
        mill = Mill(HALF)
        answers = [mill.do(row) for row in self.ROWS]
        self.assertEqual(run(HALF, self.ROWS), (answers, mill.log(), mill.raised()))

    def test_each_run_is_a_new_mill(self):
        self.assertEqual(run(HALF, self.ROWS), run(HALF, self.ROWS))
        with self.assertRaises(Stopped):
            run(HALF, ["show a"])

    def test_two_hundred_rows(self):
        rows = ["put a 1", "put b 1"] + ["add a a b"] * 197 + ["show a"]
        answers, log, flags = run(HALF, rows)
        self.assertEqual((answers, len(log), flags), ([""] * 199 + ["198"], 199, 0))

    def test_stopped(self):
        for row in ("", "x", "show x", "way x", "size 1 1", "put n x", "bits n 65536", "add n a"):
            for at in range(5):
                rows = self.ROWS[:at] + [row] + self.ROWS[at:]
                with self.assertRaises(Stopped) as caught:
                    run(HALF, rows)
                self.assertEqual(caught.exception.at, at)
                self.assertEqual(caught.exception.told, ["", "", "", "0.3333", "less"][:at])
                self.assertIs(type(caught.exception.told), list)

    def test_the_first_refused_row_stops(self):
        with self.assertRaises(Stopped) as caught:
            run(HALF, ["put a 1", "x", "show a", "y"])
        self.assertEqual((caught.exception.at, caught.exception.told), (1, [""]))

    def test_rows_handed_in_stay_and_lists_told_stay_apart(self):
        rows = list(self.ROWS)
        answers, log, flags = run(HALF, rows)
        self.assertEqual(rows, self.ROWS)
        answers.append("x")
        log.append("x")
        rows.append("x")
        self.assertEqual(run(size=HALF, rows=self.ROWS)[0], answers[:-1])
        self.assertEqual(run(HALF, self.ROWS)[1], log[:-1])


class Model:
    """Points 30 to 32 once more, by the oracle's deeds."""

    DEEDS = {"add": oracle.added, "take": oracle.taken, "mul": oracle.multiplied,
             "div": oracle.divided, "root": oracle.rooted, "fuse": oracle.fused,
             "whole": oracle.wholed}

    def __init__(self, size):
        self.size, self.way, self.numbers, self.flags, self.log = size, "even", {}, 0, []

    def put(self, name, bits, flags):
        self.numbers[name] = bits
        self.flags |= flags
        self.log.append((name, bits, flags))
        return ""

    def turn(self, bits):
        step, flags = bits[0], 0
        for each in bits[1:]:
            step, raised = oracle.added(self.size, self.way, step, each)
            flags |= raised
        return step, flags

    def halves(self, bits):
        if len(bits) == 1:
            return bits[0], 0
        first, flags = self.halves(bits[:len(bits) // 2])
        second, more = self.halves(bits[len(bits) // 2:])
        step, last = oracle.added(self.size, self.way, first, second)
        return step, flags | more | last

    def resize(self, other):
        for name, bits in list(self.numbers.items()):
            sign = oracle.sign_of(self.size, bits)
            if oracle.is_none(self.size, bits):
                pair = oracle.plain_none(other), 0
            elif oracle.is_endless(self.size, bits):
                pair = oracle.signed(other, sign, oracle.end_code(other)), 0
            elif oracle.is_nought(self.size, bits):
                pair = oracle.signed(other, sign, 0), 0
            else:
                pair = oracle.rounded(other, self.way, oracle.value(self.size, bits))
            self.put(name, *pair)
        self.size = other
        return ""

    def do(self, verb, *words):
        if verb == "size":
            return self.resize((int(words[0]), int(words[1])))
        if verb == "way":
            self.way = words[0]
            return ""
        if verb == "calm":
            self.flags = 0
            return ""
        if verb == "flags":
            names = ("inexact", "small", "great", "pole", "wrong")
            return " ".join(name for place, name in enumerate(names) if self.flags >> place & 1)
        if verb == "put":
            value = Fraction(words[1])
            pair = oracle.rounded(self.size, self.way, value) if value else (0, 0)
            return self.put(words[0], *pair)
        if verb == "bits":
            return self.put(words[0], int(words[1]), 0)
        if verb == "show":
            return shown(self.size, self.numbers[words[0]])
        if verb == "less":
            return compared(self.size, *[self.numbers[name] for name in words])
        bits = [self.numbers[name] for name in words[1:]]
        return self.put(words[0], *self.made(verb, bits))

    def made(self, verb, bits):
        if verb == "same":
            return bits[0], 0
        if verb == "minus":
            return bits[0] ^ oracle.sign_bit(self.size), 0
        if verb == "sum":
            return oracle.gathered(self.size, self.way, [], bits)
        if verb == "dot":
            return oracle.gathered(self.size, self.way, list(zip(bits[::2], bits[1::2])))
        if verb == "turn":
            return self.turn(bits)
        if verb == "halves":
            return self.halves(bits)
        return self.DEEDS[verb](self.size, self.way, *bits)


class Drawn(unittest.TestCase):
    COUNTS = {"add": 2, "take": 2, "mul": 2, "div": 2, "root": 1, "whole": 1, "fuse": 3, "same": 1,
              "minus": 1, "sum": 0, "turn": 0, "halves": 0, "dot": 0}

    def drawn_row(self, source, size, old):
        verb = source.choice(list(self.COUNTS) * 2 + ["put", "bits", "show", "less", "flags", "way", "size",
                                                      "calm"])
        name = source.choice("abcdef")
        if verb in self.COUNTS:
            count = self.COUNTS[verb] or 2 * source.randrange(1, 4) - (verb != "dot" and source.randrange(2))
            return [verb, name] + [source.choice(old) for place in range(count)]
        if verb == "put":
            return [verb, name, f"{source.choice(('', '-'))}{source.randrange(1, 400)}e{source.randrange(-4, 4)}"]
        return {
            "bits": [verb, name, str(source.randrange(2 * oracle.sign_bit(size)))],
            "show": [verb, source.choice(old)],
            "less": [verb, source.choice(old), source.choice(old)],
            "way": [verb, source.choice(WAYS)],
            "size": [verb, *map(str, source.choice((LITTLE, HALF, (4, 2), (6, 8), SINGLE)))],
        }.get(verb, [verb])

    def test_drawn_rows_against_the_model(self):
        for turn in range(40):
            source = random.Random(f"mill {turn}")
            size = source.choice((LEAST, LITTLE, HALF, (4, 2)))
            mill, model, rows, answers = Mill(size), Model(size), [], []
            for place in range(60):
                old = list(model.numbers)
                row = self.drawn_row(source, model.size, old) if old else ["put", "a", "1"]
                rows.append(" ".join(row))
                answers.append(model.do(*row))
                self.assertEqual(mill.do(rows[-1]), answers[-1], rows)
                self.assertEqual(mill.raised(), model.flags, rows)
                self.refuse_between(source, mill)
            self.assertEqual(mill.log(), model.log)
            self.assertEqual(mill.names(), list(model.numbers))
            self.assertEqual((mill.size_now(), mill.way_now()), (model.size, model.way))
            self.assertEqual(run(size, rows), (answers, model.log, model.flags))

    def refuse_between(self, source, mill):
        before = state(mill)
        row = source.choice(("put a x", "way x", "size 1 1", "add a a z", "bits a " + "9" * 40, "x", "sum a"))
        with self.assertRaises(MillError):
            mill.do(row)
        self.assertEqual(state(mill), before)


if __name__ == "__main__":
    unittest.main()
