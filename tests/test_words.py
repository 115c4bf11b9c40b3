import unittest

from roundmill.errors import NoRow
from roundmill.words import words_of

# Each verb with the counts of words that may stand behind it.
COUNTS = {
    "size": (2,), "way": (1,), "put": (2,), "bits": (2,), "same": (2,), "minus": (2,), "add": (3,),
    "take": (3,), "mul": (3,), "div": (3,), "root": (2,), "fuse": (4,), "whole": (2,),
    "sum": tuple(range(2, 22)), "turn": tuple(range(2, 22)), "halves": tuple(range(2, 22)),
    "dot": tuple(range(3, 22, 2)), "show": (1,), "less": (2,), "flags": (0,), "calm": (0,),
}
# Words at these places are no names.
OTHERS = {"size": ("5", "10"), "way": ("up",), "put": ("a", "1.5"), "bits": ("a", "7")}
NO_NAMES = (
    "A", "aB", "a1", "1", "a-b", "a_b", "_", "a.", "abcdefghi", "abcdefghij", "-", "+a", "~", "a!",
)


def row_of(verb, count):
    words = OTHERS.get(verb, ())[:count]
    words = tuple(words) + tuple("abcdefghijklmnopqrstuvwxyz"[len(words):count])
    return " ".join((verb,) + words)


class WordsTest(unittest.TestCase):
    def taken(self, row):
        told = words_of(row)
        self.assertIs(type(told), list)
        self.assertEqual(told, row.split())

    def refused(self, row):
        with self.assertRaises(NoRow, msg=row):
            words_of(row)


class Counts(WordsTest):
    def test_each_verb(self):
        for verb, counts in COUNTS.items():
            for count in range(0, 26):
                with self.subTest(verb, count=count):
                    if count in counts:
                        self.taken(row_of(verb, count))
                    else:
                        self.refused(row_of(verb, count))

    def test_twenty_names_and_one_more(self):
        for verb in ("sum", "turn", "halves", "dot"):
            self.taken(verb + " n" + " a" * 20)
            self.refused(verb + " n" + " a" * 21)
            self.refused(verb + " n" + " a" * 22)
        for count in range(0, 23):
            row = "dot n" + " a" * count
            if count in range(2, 21, 2):
                self.taken(row)
            else:
                self.refused(row)


class Blanks(WordsTest):
    def test_blanks_ahead_behind_and_doubled(self):
        for verb, counts in COUNTS.items():
            row = row_of(verb, counts[0])
            self.refused(" " + row)
            self.refused(row + " ")
            self.refused("  " + row)
            if " " in row:
                self.refused(row.replace(" ", "  "))
                self.refused(row.replace(" ", "  ", 1))
                first, last = row.rsplit(" ", 1)
                self.refused(first + "  " + last)
                self.refused(first + " ")

    def test_no_words(self):
        for row in ("", " ", "  ", " " * 600):
            self.refused(row)

    def test_empty_words_do_not_count(self):
        self.refused("put a ")
        self.refused("way ")
        self.refused("put  1")
        self.refused("flags ")
        self.refused("sum n ")
        self.refused("dot n a ")


class Lengths(WordsTest):
    def test_six_hundred_signs_and_one_more(self):
        for start in ("put a ", "way ", "put abcdefgh "):
            row = start + "x" * (600 - len(start))
            self.assertEqual(len(row), 600)
            self.taken(row)
            self.refused(row + "x")
            self.refused(row + " ")
            self.refused(row[:300] + " " + row[300:599])


class Verbs(WordsTest):
    def test_unknown_verbs(self):
        for verb in ("", "x", "Add", "ADD", "adds", "ad", "sub", "log", "names", "+", "1", "run", "do",
                     "plus", "sums", "size,", "measure", "text", "new", "old"):
            for count in range(5):
                self.refused(" ".join([verb] + ["a"] * count))

    def test_verbs_as_names(self):
        for verb in COUNTS:
            self.taken(f"put {verb} 1")
            self.taken(f"add {verb} {verb} {verb}")
            self.taken(f"show {verb}")
            self.taken(f"sum {verb} {verb}")
        self.taken("add add add add")
        self.taken("sum sum sum")


class Names(WordsTest):
    def test_one_to_eight_letters(self):
        for name in ("a", "z", "m", "ab", "az", "abcdefgh", "zzzzzzzz", "qrstuvwx", "jklmnopy"):
            self.taken(f"put {name} 1")
            self.taken(f"bits {name} 1")
            self.taken(f"same a {name}")
            self.taken(f"fuse a b c {name}")
            self.taken(f"show {name}")
            self.taken(f"halves a b {name}")

    def test_what_is_no_name_at_each_place(self):
        for name in NO_NAMES:
            for verb, counts in COUNTS.items():
                for count in counts[:3]:
                    words = row_of(verb, count).split(" ")
                    for place in range(1, len(words)):
                        if verb in ("way", "size") or verb in ("put", "bits") and place == 2:
                            continue
                        changed = list(words)
                        changed[place] = name
                        self.refused(" ".join(changed))


class Figures(WordsTest):
    def test_sizes(self):
        for figures in ("0", "5", "05", "11", "112", "0005", "9999", "0000"):
            self.taken(f"size {figures} 10")
            self.taken(f"size 5 {figures}")
        for figures in ("00005", "12345", "-5", "+5", "5.", "5.0", "a", "1e1", "x5", "5x", "0x5", "1_0"):
            self.refused(f"size {figures} 10")
            self.refused(f"size 5 {figures}")

    def test_bits(self):
        for figures in ("0", "7", "007", "1" * 39, "9" * 40, "0" * 40):
            self.taken(f"bits a {figures}")
        for figures in ("1" * 41, "0" * 41, "-1", "+1", "1.5", "1.", "a", "0x1", "1e3", "1_0", "7a"):
            self.refused(f"bits a {figures}")


class Texts(WordsTest):
    def test_any_word_may_be_read_or_be_a_way(self):
        for word in ("x", "1", "even", "odd", "-endless", "1" * 500, "~", "!", "a,b", "UP"):
            self.taken(f"put a {word}")
            self.taken(f"way {word}")


class Told(unittest.TestCase):
    def test_a_list_told_is_the_asker_s_own(self):
        told = words_of("add n a b")
        told.append("c")
        told[0] = "x"
        self.assertEqual(words_of("add n a b"), ["add", "n", "a", "b"])

    def test_known(self):
        self.assertEqual(words_of("flags"), ["flags"])
        self.assertEqual(words_of(row="put x -1.5e3"), ["put", "x", "-1.5e3"])
        self.assertEqual(words_of("dot n a b a b"), ["dot", "n", "a", "b", "a", "b"])


if __name__ == "__main__":
    unittest.main()
