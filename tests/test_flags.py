import unittest

from roundmill import flags
from roundmill.errors import NoFlags
from roundmill.flags import flag_names
from drawn import HUGE

NAMES = {1: "inexact", 2: "small", 4: "great", 8: "pole", 16: "wrong"}


class Flags(unittest.TestCase):
    def test_the_five(self):
        told = (flags.INEXACT, flags.SMALL, flags.GREAT, flags.POLE, flags.WRONG)
        self.assertEqual(told, (1, 2, 4, 8, 16))

    def test_each_number(self):
        for number in range(32):
            told = flag_names(number)
            self.assertIs(type(told), list)
            self.assertEqual(told, [name for flag, name in NAMES.items() if number & flag])

    def test_known(self):
        self.assertEqual(flag_names(0), [])
        self.assertEqual(flag_names(5), ["inexact", "great"])
        self.assertEqual(flag_names(24), ["pole", "wrong"])
        self.assertEqual(flag_names(flags=31), list(NAMES.values()))

    def test_refused(self):
        for number in (-1, 32, -2, -31, -32, 33, 63, 64, 2 ** 64, HUGE, -HUGE):
            with self.assertRaises(NoFlags) as caught:
                flag_names(number)
            self.assertIsInstance(str(caught.exception), str)

    def test_a_list_told_is_the_asker_s_own(self):
        for number in range(32):
            kept = flag_names(number)
            changed = flag_names(number)
            changed.append("more")
            changed[0] = "other"
            self.assertEqual(flag_names(number), kept)


if __name__ == "__main__":
    unittest.main()
