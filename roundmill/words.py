"""The rows of a mill: their words and their forms."""

from roundmill.errors import NoRow
from roundmill.reading import all_figures

LONGEST_ROW = 600
LONGEST_NAME = 8
LETTERS = "abcdefghijklmnopqrstuvwxyz"

# The sorts of the words behind a verb: a "new" name is put under, an "old" one has a number.
FORMS = {
    "size": ("measure", "measure"),
    "way": ("text",),
    "put": ("new", "text"),
    "bits": ("new", "bits"),
    "same": ("new", "old"),
    "minus": ("new", "old"),
    "add": ("new", "old", "old"),
    "take": ("new", "old", "old"),
    "mul": ("new", "old", "old"),
    "div": ("new", "old", "old"),
    "root": ("new", "old"),
    "fuse": ("new", "old", "old", "old"),
    "whole": ("new", "old"),
    "show": ("old",),
    "less": ("old", "old"),
    "flags": (),
    "calm": (),
}

# Verbs with a new name and a count of old ones that is a multiple of the number told here.
NAME_ROWS = {"sum": 1, "turn": 1, "halves": 1, "dot": 2}
MOST_NAMES = 20

# How many figures a word of a sort may have.
LONGEST_FIGURES = {"measure": 4, "bits": 40}


def is_name(word):
    if word == "" or len(word) > LONGEST_NAME:
        return False
    return all([letter in LETTERS for letter in word])


def fits(sort, word):
    if sort == "text":
        return word != ""
    if sort in LONGEST_FIGURES:
        return all_figures(word) and len(word) <= LONGEST_FIGURES[sort]
    return is_name(word)


# The sorts of so many words behind a verb.
def form_of(verb, count):
    if verb in FORMS:
        return FORMS[verb]
    if verb not in NAME_ROWS:
        raise NoRow("no row begins with this word")
    names = count - 1
    if names < 1 or names > MOST_NAMES or names % NAME_ROWS[verb] != 0:
        raise NoRow("the row has too few or too many names")
    return ("new",) + ("old",) * names


def words_of(row):
    if len(row) > LONGEST_ROW:
        raise NoRow("a row has at most 600 signs")
    words = row.split(" ")
    form = form_of(words[0], len(words) - 1)
    if len(form) != len(words) - 1:
        raise NoRow("the row has too few or too many words")
    for sort, word in zip(form, words[1:]):
        if not fits(sort, word):
            raise NoRow("a word of the row is not of its form")
    return words


# The names that must have numbers, of the words that words_of told.
def old_names(words):
    form = form_of(words[0], len(words) - 1)
    return [word for sort, word in zip(form, words[1:]) if sort == "old"]
