"""The five flags that tell what was lost on the way to an answer."""

from roundmill.errors import NoFlags

INEXACT = 1
SMALL = 2
GREAT = 4
POLE = 8
WRONG = 16

ALL_FLAGS = 31
# Each at the place of its flag's bit.
NAMES = ("inexact", "small", "great", "pole", "wrong")


def flag_names(flags):
    if flags < 0 or flags > ALL_FLAGS:
        raise NoFlags("flags are a whole number from 0 to 31")
    return [NAMES[place] for place in range(len(NAMES)) if (flags >> place) & 1 == 1]
