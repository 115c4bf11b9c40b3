"""What the verbs of a mill's rows do: each deed is told the size, the way, the row's third word and
the numbers of the names that it asks for."""

from roundmill.changing import changed
from roundmill.deeds import added, divided, fused, multiplied, rooted, taken
from roundmill.order import compared
from roundmill.parts import check_bits, negated
from roundmill.reading import read
from roundmill.rows import gathered, in_halves, in_turn, summed
from roundmill.wholes import wholed
from roundmill.writing import shown


def put_row(size, way, word, numbers):
    return read(size, way, word)


def bits_row(size, way, word, numbers):
    bits = int(word)
    check_bits(size, [bits])
    return (bits, 0)


def same_row(size, way, word, numbers):
    return (numbers[0], 0)


def minus_row(size, way, word, numbers):
    return (negated(size, numbers[0]), 0)


def add_row(size, way, word, numbers):
    return added(size, way, numbers[0], numbers[1])


def take_row(size, way, word, numbers):
    return taken(size, way, numbers[0], numbers[1])


def mul_row(size, way, word, numbers):
    return multiplied(size, way, numbers[0], numbers[1])


def div_row(size, way, word, numbers):
    return divided(size, way, numbers[0], numbers[1])


def root_row(size, way, word, numbers):
    return rooted(size, way, numbers[0])


def fuse_row(size, way, word, numbers):
    return fused(size, way, numbers[0], numbers[1], numbers[2])


def whole_row(size, way, word, numbers):
    return wholed(size, way, numbers[0])


def sum_row(size, way, word, numbers):
    return summed(size, way, numbers)


def turn_row(size, way, word, numbers):
    told = in_turn(size, way, numbers)
    return (told[0][-1], told[1])


def halves_row(size, way, word, numbers):
    return in_halves(size, way, numbers)


def dot_row(size, way, word, numbers):
    return gathered(size, way, numbers[0::2], numbers[1::2])


DEEDS = {
    "put": put_row,
    "bits": bits_row,
    "same": same_row,
    "minus": minus_row,
    "add": add_row,
    "take": take_row,
    "mul": mul_row,
    "div": div_row,
    "root": root_row,
    "fuse": fuse_row,
    "whole": whole_row,
    "sum": sum_row,
    "turn": turn_row,
    "halves": halves_row,
    "dot": dot_row,
}


def puts_number(verb):
    return verb in DEEDS


def made(size, way, words, numbers):
    deed = DEEDS[words[0]]
    return deed(size, way, words[2], numbers)


def answered(size, verb, numbers):
    if verb == "show":
        return shown(size, numbers[0])
    return compared(size, numbers[0], numbers[1])


# The entries of the log for numbers, a dict by their names, that are changed to another size.
def resized(size, other, way, numbers):
    entries = []
    for name, bits in numbers.items():
        pair = changed(size, other, way, bits)
        entries.append((name, pair[0], pair[1]))
    return entries
