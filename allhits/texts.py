"""Texts: the names of a ground, its sets and its families, written and read again."""

from allhits.errors import NoText
from allhits.families import is_family
from allhits.sets import MOST_NAMES, names_in, set_of

MOST_LETTERS = 8
NO_NAMES = "-"
NO_SETS = "none"


def read_names(text):
    words = parted(text, " ")
    # The empty text has no names at all, not one without letters.
    if words == [""]:
        return []
    if len(words) > MOST_NAMES or len(set(words)) < len(words):
        raise NoText("a ground has at most eight names, no two of them alike")
    for word in words:
        if not is_word(word) or word == NO_SETS:
            raise NoText("a name is a word of one to eight small letters, and not called none")
    return words


def show_set(words, one):
    if one == 0:
        return NO_NAMES
    return "+".join([words[k] for k in names_in(one)])


def show_family(words, family):
    if len(family) == 0:
        return NO_SETS
    return " ".join([show_set(words, one) for one in family])


def read_set(words, text):
    parts = parted(text, "+")
    if parts == [NO_NAMES]:
        return 0
    names = [read_name(words, word) for word in parts]
    if names != sorted(set(names)):
        raise NoText("the names of a set stand in the ground's order, each once")
    return set_of(names)


def read_family(words, text):
    parts = parted(text, " ")
    if parts == [NO_SETS]:
        return []
    family = [read_set(words, part) for part in parts]
    if not is_family(len(words), family):
        raise NoText("the sets of a family rise, and there are at most seventy")
    return family


def read_name(words, word):
    if word not in words:
        raise NoText("the ground has no such name")
    return words.index(word)


def is_word(text):
    return 1 <= len(text) <= MOST_LETTERS and all(["a" <= sign <= "z" for sign in text])


def parted(text, sign):
    # The kind comes first: things of other kinds may not bear to be compared.
    if not isinstance(text, str):
        raise NoText("only a text can be read")
    return text.split(sign)
