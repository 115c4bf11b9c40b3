import unittest

from roundmill.errors import NoWay
from roundmill.ways import Way, way_names, way_of

NAMES = ["even", "away", "nought", "up", "down"]
NO_NAMES = (
    "", " ", "Even", "EVEN", "even ", " even", "eve", "evenn", "e", "even away", "evenaway", "odd",
    "to", "zero", "none", "up down", "ups", "own", "do", "0", "1", "x" * 5000,
)


class Names(unittest.TestCase):
    def test_in_order(self):
        self.assertEqual(way_names(), NAMES)
        self.assertIs(type(way_names()), list)

    def test_a_list_told_is_the_asker_s_own(self):
        told = way_names()
        told.append("odd")
        told[0] = "other"
        self.assertEqual(way_names(), NAMES)
        with self.assertRaises(NoWay):
            way_of("odd")
        self.assertTrue(way_of("even").bursts(0))

    def test_each_name_has_a_way(self):
        for name in NAMES:
            self.assertIsInstance(way_of(name), Way)
            self.assertIsInstance(way_of(name=name), Way)

    def test_no_way(self):
        for name in NO_NAMES:
            with self.assertRaises(NoWay):
                way_of(name)


class Grows(unittest.TestCase):
    # way: (sign, odd) -> the rests that grow
    TOLD = {
        "even": {(0, False): (3,), (0, True): (2, 3), (1, False): (3,), (1, True): (2, 3)},
        "away": {(0, False): (2, 3), (0, True): (2, 3), (1, False): (2, 3), (1, True): (2, 3)},
        "nought": {(0, False): (), (0, True): (), (1, False): (), (1, True): ()},
        "up": {(0, False): (1, 2, 3), (0, True): (1, 2, 3), (1, False): (), (1, True): ()},
        "down": {(0, False): (), (0, True): (), (1, False): (1, 2, 3), (1, True): (1, 2, 3)},
    }

    def test_each_name_sign_oddness_and_rest(self):
        for name, rows in self.TOLD.items():
            for (sign, odd), rests in rows.items():
                for rest in range(4):
                    with self.subTest(name, sign=sign, odd=odd, rest=rest):
                        self.assertIs(way_of(name).grows(sign, odd, rest), rest in rests)
                        told = way_of(name).grows(sign=sign, odd=odd, rest=rest)
                        self.assertIs(told, rest in rests)


class Bursts(unittest.TestCase):
    def test_each_name_and_sign(self):
        told = {
            "even": (True, True), "away": (True, True), "nought": (False, False),
            "up": (True, False), "down": (False, True),
        }
        for name, signs in told.items():
            for sign in (0, 1):
                with self.subTest(name, sign=sign):
                    self.assertIs(way_of(name).bursts(sign), signs[sign])
                    self.assertIs(way_of(name).bursts(sign=sign), signs[sign])

    def test_one_way_is_asked_often(self):
        way = way_of("down")
        for turn in range(3):
            self.assertIs(way.bursts(1), True)
            self.assertIs(way.grows(0, True, 3), False)
            self.assertIs(way.grows(1, False, 1), True)


if __name__ == "__main__":
    unittest.main()
