"""The mill: it does rows one by one and keeps numbers under names."""

from roundmill.errors import MillError, NoName, Stopped
from roundmill.flags import flag_names
from roundmill.sizes import size_of
from roundmill.verbs import answered, made, puts_number, resized
from roundmill.ways import way_of
from roundmill.words import old_names, words_of


class Mill:
    def __init__(self, size):
        self.size = size
        self.way = "even"
        # A name keeps its place in the dict when it gets another number.
        self.numbers = {}
        self.flags = 0
        self.logged = []

    def do(self, row):
        words = words_of(row)
        numbers = [self.bits_of(name) for name in old_names(words)]
        verb = words[0]
        if puts_number(verb):
            pair = made(self.size, self.way, words, numbers)
            self.keep([(words[1], pair[0], pair[1])])
            return ""
        if verb in ("show", "less"):
            return answered(self.size, verb, numbers)
        if verb == "flags":
            return " ".join(flag_names(self.flags))
        self.turn(words)
        return ""

    # The rows that turn the mill itself; what may be refused stands ahead of what is changed.
    def turn(self, words):
        if words[0] == "size":
            other = size_of(int(words[1]), int(words[2]))
            entries = resized(self.size, other, self.way, self.numbers)
            self.size = other
            self.keep(entries)
        elif words[0] == "way":
            way_of(words[1])
            self.way = words[1]
        else:
            self.flags = 0

    def keep(self, entries):
        for entry in entries:
            self.numbers[entry[0]] = entry[1]
            self.flags = self.flags | entry[2]
            self.logged.append(entry)

    def bits_of(self, name):
        if name not in self.numbers:
            raise NoName("no number has this name")
        return self.numbers[name]

    def names(self):
        return list(self.numbers)

    def log(self):
        return list(self.logged)

    def raised(self):
        return self.flags

    def size_now(self):
        return self.size

    def way_now(self):
        return self.way


def run(size, rows):
    mill = Mill(size)
    answers = []
    for place, row in enumerate(rows):
        try:
            answer = mill.do(row)
        except MillError:
            raise Stopped(place, answers) from None
        answers.append(answer)
    return (answers, mill.log(), mill.raised())
