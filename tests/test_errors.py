import unittest

from roundmill import errors
from drawn import HUGE

NAMES = (
    "NoSize", "NoBits", "NoParts", "NoRank", "NotFinite", "NoWay", "NoFlags", "NoFraction",
    "Unlike", "Empty", "NoLeft", "NoText", "NoRow", "NoName", "Stopped",
)


def made(name):
    if name == "Stopped":
        return errors.Stopped(0, [])
    return getattr(errors, name)("words")


class Classes(unittest.TestCase):
    def test_the_root_stands_under_value_error(self):
        self.assertEqual(errors.MillError.__bases__, (ValueError,))

    def test_each_stands_under_the_root_alone(self):
        for name in NAMES:
            with self.subTest(name):
                self.assertEqual(getattr(errors, name).__bases__, (errors.MillError,))

    def test_none_stands_under_another(self):
        for name in NAMES:
            for other in NAMES:
                with self.subTest(name, other=other):
                    under = issubclass(getattr(errors, name), getattr(errors, other))
                    self.assertEqual(under, name == other)

    def test_each_is_caught_by_its_own_name_and_both_roots(self):
        for name in NAMES:
            for caught in (getattr(errors, name), errors.MillError, ValueError):
                with self.subTest(name, caught=caught):
                    with self.assertRaises(caught):
                        raise made(name)

    def test_there_are_no_other_error_classes(self):
        found = {
            name for name, thing in vars(errors).items()
            if isinstance(thing, type) and issubclass(thing, BaseException)
        }
        self.assertEqual(found, set(NAMES) | {"MillError"})


class StoppedFields(unittest.TestCase):
    def test_fields(self):
        stopped = errors.Stopped(2, ["", "1.5"])
        self.assertEqual(stopped.at, 2)
        self.assertEqual(stopped.told, ["", "1.5"])

    def test_fields_by_name(self):
        stopped = errors.Stopped(at=0, told=[])
        self.assertEqual((stopped.at, stopped.told), (0, []))

    def test_fields_are_there_when_caught(self):
        with self.assertRaises(errors.Stopped) as caught:
            raise errors.Stopped(7, ["a"])
        self.assertEqual((caught.exception.at, caught.exception.told), (7, ["a"]))

    def test_the_list_handed_in_stays_apart_from_what_is_told(self):
        answers = ["a"]
        stopped = errors.Stopped(1, answers)
        answers.append("b")
        self.assertEqual(stopped.told, ["a"])
        stopped.told.append("c")
        self.assertEqual(answers, ["a", "b"])

    def test_numbers_stay_out_of_the_words(self):
        self.assertIsInstance(str(errors.Stopped(HUGE, [])), str)


if __name__ == "__main__":
    unittest.main()
