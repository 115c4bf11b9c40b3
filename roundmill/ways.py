"""The five ways of rounding."""

from roundmill.errors import NoWay

NAMES = ("even", "away", "nought", "up", "down")


class Way:
    def __init__(self, name):
        self.name = name

    def grows(self, sign, odd, rest):
        if rest == 0:
            return False
        if self.name == "even":
            return rest == 3 or (rest == 2 and odd)
        if self.name == "away":
            return rest >= 2
        return self.flees_nought(sign)

    def bursts(self, sign):
        if self.name in ("even", "away"):
            return True
        return self.flees_nought(sign)

    # Of the ways that ask for no nearness: whether numbers of this sign go away from nought.
    def flees_nought(self, sign):
        if self.name == "up":
            return sign == 0
        return self.name == "down" and sign == 1


def way_names():
    return list(NAMES)


def way_of(name):
    if name not in NAMES:
        raise NoWay("no way of rounding has this name")
    return Way(name)
