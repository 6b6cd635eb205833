"""The desk: it keeps families by names of their own, and answers rows of words with texts."""

from allhits.answers import show_looked, show_numbers, show_ranks, show_weights, show_word_and_sets
from allhits.duals import held
from allhits.errors import Full, NoDeed, NoFamily, NoText
from allhits.families import rests, says
from allhits.heavier import compared, ranks, turns
from allhits.hits import hits, looked
from allhits.parts import always_in, always_out, both, either
from allhits.texts import is_word, read_family, read_name, read_names, read_set, show_family
from allhits.votes import by_weights

MOST_KEPT = 20

# The kinds of the words behind the first one, from the left; a row whose first kind is new keeps a family by it.
WANTED = {
    "let": ("new", "text"),
    "hits": ("new", "family"),
    "rests": ("new", "family"),
    "either": ("new", "family", "family"),
    "both": ("new", "family", "family"),
    "in": ("new", "family", "name"),
    "out": ("new", "family", "name"),
    "show": ("family",),
    "says": ("family", "set"),
    "look": ("family", "set"),
    "held": ("family", "family"),
    "compare": ("family", "name", "name"),
    "turns": ("family",),
    "ranks": ("family",),
    "weights": ("family",),
}


class Desk:
    def __init__(self, text):
        self.words = read_names(text)
        self.kept = {}

    def say(self, row):
        parts = parts_of(row)
        deed = parts[0]
        # All is read before anything is kept, so that what is refused changes nothing.
        things = [self.thing_of(kind, word) for kind, word in zip(WANTED[deed], parts[1:])]
        if WANTED[deed][0] == "new":
            self.look_for_room(things[0])
            self.kept[things[0]] = made(len(self.words), deed, things[1:])
            return "ok"
        return answered(self.words, deed, things)

    def thing_of(self, kind, word):
        if kind == "new":
            return new_name(word)
        if kind == "family":
            return self.family_by(word)
        if kind == "name":
            return read_name(self.words, word)
        if kind == "set":
            return read_set(self.words, word)
        return read_family(self.words, word)

    def family_by(self, word):
        if word not in self.kept:
            raise NoFamily("no family is kept by this name")
        return self.kept[word]

    def look_for_room(self, name):
        if name not in self.kept and len(self.kept) >= MOST_KEPT:
            raise Full("twenty families are kept already")


def parts_of(row):
    if not isinstance(row, str):
        raise NoDeed("a row is a text")
    deed = row.split(" ")[0]
    if deed not in WANTED:
        raise NoDeed("no row begins with this word")
    # The text of a family has blanks of its own, and counts as one word.
    parts = row.split(" ", 2) if deed == "let" else row.split(" ")
    if len(parts) != len(WANTED[deed]) + 1:
        raise NoDeed("the row has not as many words as wanted")
    return parts


def new_name(word):
    if not is_word(word):
        raise NoText("a family's name is a word of one to eight small letters")
    return word


def made(many, deed, things):
    if deed == "let":
        return things[0]
    if deed == "hits":
        return hits(many, things[0])
    if deed == "rests":
        return rests(many, things[0])
    if deed == "either":
        return either(things[0], things[1])
    if deed == "both":
        return both(things[0], things[1])
    if deed == "in":
        return always_in(things[0], things[1])
    return always_out(things[0], things[1])


def answered(words, deed, things):
    many = len(words)
    family = things[0]
    if deed == "show":
        return show_family(words, family)
    if deed == "says":
        return "yes" if says(family, things[1]) else "no"
    if deed == "look":
        return show_looked(words, looked(family, things[1]))
    if deed == "held":
        return show_word_and_sets(words, held(many, family, things[1]))
    if deed == "compare":
        return show_word_and_sets(words, compared_unlike(many, family, things[1], things[2]))
    if deed == "turns":
        return show_numbers(turns(many, family))
    if deed == "ranks":
        return show_ranks(words, ranks(many, family))
    return show_weights(words, by_weights(many, family))


def compared_unlike(many, family, x, y):
    if x == y:
        raise NoText("a name is held against another one")
    return compared(many, family, x, y)
