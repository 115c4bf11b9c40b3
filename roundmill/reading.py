"""Texts read: numerals, their spelling, and the numbers they are rounded to."""

from roundmill.errors import NoText
from roundmill.parts import signed
from roundmill.rounding import rounded
from roundmill.sizes import endless, no_number
from roundmill.ways import way_of

LONGEST_LINE = 400
LONGEST_EXPONENT = 4
FIGURES = "0123456789"


def ten_to(number):
    if number == 0:
        return 1
    half = ten_to(number // 2)
    return half * half * 10 if number & 1 == 1 else half * half


# top / bottom times 10 ** place, again as a top and a bottom.
def tenfold(top, bottom, place):
    if place >= 0:
        return (top * ten_to(place), bottom)
    return (top, bottom * ten_to(-place))


def all_figures(word):
    return word != "" and all([sign in FIGURES for sign in word])


def bare_line(line):
    if len(line) > LONGEST_LINE:
        raise NoText("a text of more than 400 signs is not read")
    return line.strip(" ")


# The tuple (sign, word without its sign).
def sign_and_word(word):
    if word.startswith("-"):
        return (1, word[1:])
    if word.startswith("+"):
        return (0, word[1:])
    return (0, word)


def exponent_of(word):
    parts = sign_and_word(word)
    if not all_figures(parts[1]) or len(parts[1]) > LONGEST_EXPONENT:
        raise NoText("behind e stand one to four figures")
    return -int(parts[1]) if parts[0] == 1 else int(parts[1])


def spelled(line):
    start = sign_and_word(bare_line(line))
    halves = start[1].partition("e")
    exponent = exponent_of(halves[2]) if halves[1] == "e" else 0
    body = halves[0].partition(".")
    if not all_figures(body[0]):
        raise NoText("a numeral has a figure ahead of its point")
    if body[1] == "." and not all_figures(body[2]):
        raise NoText("a numeral has a figure behind its point")
    return (start[0], int(body[0] + body[2]), exponent - len(body[2]))


def read(size, way, line):
    way_of(way)
    start = sign_and_word(bare_line(line))
    if start[1] == "endless":
        return (signed(size, start[0], endless(size)), 0)
    if start[1] == "none":
        return (no_number(size), 0)
    spelling = spelled(line)
    value = tenfold(spelling[1], 1, spelling[2])
    return rounded(size, way, spelling[0], value[0], value[1])
