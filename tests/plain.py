"""The document's own words, walked through one by one, and what the tests hold the program against.

Names are kept here as Python's frozensets, never as bits, so that nothing is shared with the program.
"""

import re
from functools import lru_cache
from itertools import combinations
from random import Random


@lru_cache(maxsize=None)
def names(one):
    """The names of a set, by [4]: k where the bit with the number k is set."""
    return frozenset(k for k in range(12) if one // 2 ** k % 2 == 1)


def ground(many):
    """All sets of the ground, rising."""
    return range(2 ** many)


def least(some):
    return sorted({a for a in some if not any(names(b) < names(a) for b in some)})


def greatest(some):
    return sorted({a for a in some if not any(names(b) > names(a) for b in some)})


def says(family, one):
    return any(names(other) <= names(one) for other in family)


def meets_all(family, had):
    return all(had & names(other) for other in family)


def number(had):
    """The set with just these names."""
    return sum(2 ** k for k in had)


def rest(many, one):
    return number(frozenset(range(many)) - names(one))


def rests(many, family):
    return sorted(rest(many, one) for one in family)


def hits(many, family):
    """By [8]: the sets that meet the family and hold no other set that does."""
    return list(hits_kept(many, tuple(family)))


@lru_cache(maxsize=None)
def hits_kept(many, family):
    meeting = [s for s in ground(many) if meets_all(family, names(s))]
    return tuple(least(meeting))


def looked(family, one):
    """By [9], in the order in which it is told."""
    had = names(one)
    missed = [other for other in family if not had & names(other)]
    if missed:
        return ("misses", missed[0])
    spare = [k for k in sorted(had) if meets_all(family, had - {k})]
    if spare:
        return ("spare", spare[0])
    own = []
    for k in sorted(had):
        alone = [other for other in family if had & names(other) == {k}]
        own.append((k, alone[0]))
    return ("least", own)


def left_out(many, one, other):
    """The sets that hold no set of the one and whose rests hold no set of the other."""
    return list(left_out_kept(many, tuple(one), tuple(other)))


@lru_cache(maxsize=None)
def left_out_kept(many, one, other):
    return tuple(s for s in ground(many) if not says(one, s) and not says(other, rest(many, s)))


def held(many, one, other):
    """By [11], in the order in which it is told."""
    for a in one:
        for b in other:
            if not names(a) & names(b):
                return ("apart", a, b)
    left = left_out(many, one, other)
    return ("neither", left[0]) if left else ("each",)


def good(many, one, other, paper, taken_in=frozenset(), taken_out=frozenset()):
    """By [12], of whatever thing."""
    if type(paper) is not tuple or len(paper) not in (2, 4):
        return False
    if type(paper[0]) is not str or type(paper[1]) is not int:
        return False
    word, k = paper[:2]
    if (word, len(paper)) == ("one", 2):
        return k in range(len(one)) and names(one[k]) <= taken_in
    if (word, len(paper)) == ("other", 2):
        return k in range(len(other)) and names(other[k]) <= taken_out
    if (word, len(paper)) != ("name", 4) or k not in range(many) or k in taken_in or k in taken_out:
        return False
    first = good(many, one, other, paper[2], taken_in | {k}, taken_out)
    second = good(many, one, other, paper[3], taken_in, taken_out | {k})
    return first and second


def rises(many, table):
    """By [14]: yes of each set that holds one of which it says yes."""
    said = [s for s in ground(many) if table[s]]
    return all(table[t] for s in said for t in ground(many) if names(s) <= names(t))


def falls(many, table):
    """By [14]: the first yes set that a name turns to no, and its first such name."""
    if rises(many, table):
        return None
    for s in ground(many):
        for k in range(many):
            if table[s] and k not in names(s) and not table[number(names(s) | {k})]:
                return (s, k)
    raise AssertionError("a table that doesn't rise falls somewhere")


def yeses(many, table):
    return least([s for s in ground(many) if table[s]])


def noes(many, table):
    return greatest([s for s in ground(many) if not table[s]])


def table_of(many, family):
    return [says(family, s) for s in ground(many)]


def table_of_noes(many, family):
    return [not any(names(s) <= names(other) for other in family) for s in ground(many)]


def always_in(family, k):
    return least([number(names(one) - {k}) for one in family])


def always_out(family, k):
    return [one for one in least(family) if k not in names(one)]


def either(one, other):
    return least(one + other)


def both(one, other):
    return least({number(names(a) | names(b)) for a in one for b in other})


def exchanged_set(order, one):
    return number({order[k] for k in names(one)})


def exchanged(order, family):
    return sorted(exchanged_set(order, one) for one in family)


@lru_cache(maxsize=None)
def put_to(one, k):
    """The set with the name k put to it."""
    return number(names(one) | {k})


@lru_cache(maxsize=None)
def table_kept(many, family):
    return tuple(table_of(many, family))


def parting(many, family, x, y):
    """By [20]: the sets at which x parts them."""
    said = table_kept(many, tuple(family))
    neither = [s for s in ground(many) if x not in names(s) and y not in names(s)]
    return [s for s in neither if said[put_to(s, x)] and not said[put_to(s, y)]]


def compared(many, family, x, y):
    """By [20]."""
    by_x, by_y = parting(many, family, x, y), parting(many, family, y, x)
    if by_x and by_y:
        return ("apart", by_x[0], by_y[0])
    if by_x:
        return ("heavier", by_x[0])
    return ("lighter", by_y[0]) if by_y else ("alike",)


def turns(many, family):
    """By [21]."""
    said = table_kept(many, tuple(family))
    return [sum(k not in names(s) and not said[s] and said[put_to(s, k)] for s in ground(many)) for k in range(many)]


def ranks(many, family):
    """By [22], from the comparisons alone: again and again those that no other one of the left ones is heavier than."""
    for x, y in combinations(range(many), 2):
        told = compared(many, family, x, y)
        if told[0] == "apart":
            return ("apart", x, y) + told[1:]
    left, lists = list(range(many)), []
    while left:
        top = [x for x in left if all(compared(many, family, x, y)[0] != "lighter" for y in left if y != x)]
        lists.append(top)
        left = [x for x in left if x not in top]
    return ("ranks", lists)


def weight_of(weights, one):
    return sum(weight for k, weight in enumerate(weights) if k in names(one))


def voted(weights, bar):
    """By [23]."""
    return least([s for s in ground(len(weights)) if weight_of(weights, s) >= bar])


def bears_out(many, family, told):
    """By [24]: whether what is told are weights and a bar that tell what the family says, or a trade."""
    said = table_kept(many, tuple(family))
    if told[0] == "weights":
        word, weights, bar = told
        whole = all(type(weight) is int and weight >= 0 for weight in weights) and type(bar) is int
        return (type(weights) is list and len(weights) == many and whole
                and all(said[s] == (weight_of(weights, s) >= bar) for s in ground(many)))
    word, yes, no = told
    as_often = all(sum(k in names(s) for s in yes) == sum(k in names(s) for s in no) for k in range(many))
    return (word == "trade" and type(yes) is list and type(no) is list and len(yes) == len(no) >= 1 and as_often
            and all(type(s) is int and s in ground(many) for s in yes + no)
            and all(said[s] for s in yes) and not any(said[s] for s in no))


def is_word(text):
    return re.fullmatch("[a-z]{1,8}", text) is not None


def names_read(text):
    """By [25] and [26]: a list of words, or None for what is refused."""
    if type(text) is not str:
        return None
    words = text.split(" ") if text else []
    right = all(is_word(word) and word != "none" for word in words)
    return words if right and len(words) <= 8 and len(set(words)) == len(words) else None


def set_shown(words, one):
    return "+".join(word for k, word in enumerate(words) if k in names(one)) or "-"


def family_shown(words, family):
    return " ".join(set_shown(words, one) for one in family) or "none"


def set_read(words, text):
    """By [26]: the set that is written just so, or None for what is refused."""
    return sets_by_text(tuple(words)).get(text) if type(text) is str else None


@lru_cache(maxsize=None)
def sets_by_text(words):
    return {set_shown(words, one): one for one in ground(len(words))}


def family_read(words, text):
    """By [26]: the family that is written just so, or None for what is refused."""
    if type(text) is not str:
        return None
    family = [] if text == "none" else [set_read(words, part) for part in text.split(" ")]
    if None in family or family != sorted(set(family)) or len(family) > 70:
        return None
    return family


class Desk:
    """By [27], of a readable text of names: each row is answered with a text, or with the name of what refuses it.

    Of the row `weights A` it tells the family, as what is told of it is free.
    """

    forms = {"let": "NT", "hits": "NA", "rests": "NA", "either": "NAA", "both": "NAA", "in": "NAX", "out": "NAX",
             "show": "A", "says": "AS", "look": "AS", "held": "AA", "compare": "AXX", "turns": "A", "ranks": "A",
             "weights": "A"}

    def __init__(self, text):
        self.words = names_read(text)
        self.many = len(self.words)
        self.kept = {}

    def say(self, row):
        if type(row) is not str:
            return "NoDeed"
        deed, *parts = row.split(" ")
        if deed == "let" and len(parts) > 2:
            parts = [parts[0], " ".join(parts[1:])]
        if deed not in self.forms or len(parts) != len(self.forms[deed]):
            return "NoDeed"
        for sign, part in zip(self.forms[deed], parts):
            refused = self.refused(sign, part)
            if refused:
                return refused
        if deed == "compare" and parts[1] == parts[2]:
            return "NoText"
        if self.forms[deed][0] == "N":
            if parts[0] not in self.kept and len(self.kept) == 20:
                return "Full"
            self.kept[parts[0]] = self.made(deed, parts[1:])
            return "ok"
        return self.answered(deed, self.kept[parts[0]], parts[1:])

    def refused(self, sign, part):
        if sign == "A":
            return None if part in self.kept else "NoFamily"
        right = {"N": lambda: is_word(part), "X": lambda: part in self.words,
                 "S": lambda: set_read(self.words, part) is not None,
                 "T": lambda: family_read(self.words, part) is not None}
        return None if right[sign]() else "NoText"

    def made(self, deed, parts):
        if deed == "let":
            return family_read(self.words, parts[0])
        family = self.kept[parts[0]]
        return {"hits": lambda: hits(self.many, family), "rests": lambda: rests(self.many, family),
                "either": lambda: either(family, self.kept[parts[1]]),
                "both": lambda: both(family, self.kept[parts[1]]),
                "in": lambda: always_in(family, self.words.index(parts[1])),
                "out": lambda: always_out(family, self.words.index(parts[1]))}[deed]()

    def answered(self, deed, family, parts):
        if deed == "weights":
            return family
        if deed == "says":
            return "yes" if says(family, set_read(self.words, parts[0])) else "no"
        if deed == "look":
            return self.looked_shown(looked(family, set_read(self.words, parts[0])))
        if deed == "ranks":
            return self.ranks_shown(ranks(self.many, family))
        if deed == "turns":
            return " ".join(str(count) for count in turns(self.many, family))
        if deed == "show":
            return family_shown(self.words, family)
        if deed == "held":
            told = held(self.many, family, self.kept[parts[0]])
        else:
            told = compared(self.many, family, self.words.index(parts[0]), self.words.index(parts[1]))
        return " ".join([told[0]] + [set_shown(self.words, one) for one in told[1:]])

    def looked_shown(self, told):
        if told[0] == "misses":
            return f"misses {set_shown(self.words, told[1])}"
        if told[0] == "spare":
            return f"spare {self.words[told[1]]}"
        return " ".join(["least"] + [f"{self.words[k]}:{set_shown(self.words, other)}" for k, other in told[1]])

    def ranks_shown(self, told):
        if told[0] == "apart":
            return f"apart {self.words[told[1]]} {self.words[told[2]]}"
        return " ".join(["ranks"] + ["=".join(self.words[k] for k in some) for some in told[1]])


def of_size(many, size):
    """All sets of the ground with so many names, rising."""
    return sorted(sum(2 ** k for k in some) for some in combinations(range(many), size))


def all_families(many):
    """Every family of the ground, of at most four names."""
    sets = list(ground(many))
    for number in range(2 ** len(sets)):
        yield [s for s in sets if number // 2 ** s % 2 == 1]


def some_families(many, how_many, seed):
    """Families of the ground, few sets and many, of small sets and of great ones; always the same ones."""
    chance = Random(seed)
    for turn in range(how_many):
        fewest = chance.randint(0, many)
        most = chance.randint(fewest, many)
        pool = [s for s in ground(many) if fewest <= len(names(s)) <= most]
        wanted = chance.randint(0, (3, 6, 12, 30, 70)[turn % 5])
        yield sorted(chance.sample(pool, min(len(pool), wanted)))


def edge_families(many):
    """The edges that the document names, as far as the ground has them."""
    whole = 2 ** many - 1
    told = [[], [0], [whole], sorted({0, whole}), list(ground(many))[:70], list(ground(many))[-70:]]
    told.extend(of_size(many, size) for size in range(many + 1))
    return told


def families(many):
    """Every family of a small ground, many ones of a greater one, the edges always."""
    yield from edge_families(many)
    if many <= 3:
        yield from all_families(many)
    else:
        yield from some_families(many, 300, many)


def neighbours(many, family, chance):
    """The family with one left out, one put to it, one made lesser or greater by a name; at most 70 sets each."""
    told = []
    for one in chance.sample(family, min(len(family), 3)):
        others = [other for other in family if other != one]
        told.append(others)
        if one > 0:
            told.append(others + [number(names(one) - {chance.choice(sorted(names(one)))})])
        if one < 2 ** many - 1:
            told.append(others + [number(names(one) | {chance.choice(sorted(names(rest(many, one))))})])
    lacking = [s for s in ground(many) if s not in family]
    told.extend(family + [one] for one in chance.sample(lacking, min(len(lacking), 3)))
    return [sorted(set(some)) for some in told if len(some) <= 70]


def pairs_around(many, family, chance):
    """The family with its hits, whole, with neighbours of the one or the other, and with some of them alone."""
    met = hits(many, family)
    told = [(family, met), (least(family), met)]
    told.extend((family, some) for some in neighbours(many, met, chance))
    told.extend((some, met) for some in neighbours(many, family, chance))
    told.append((family, sorted(chance.sample(met, chance.randint(0, len(met))))))
    told.append((sorted(chance.sample(family, chance.randint(0, len(family)))), met))
    return told + [(other, one) for one, other in told]


def pairs(many):
    """Pairs of families: all of a small ground; the edges with one another, drawn ones, and ones about their hits.

    The lists are made anew each time, so that one that is changed in one test is as it was in the next.
    """
    return [(list(one), list(other)) for one, other in pairs_kept(many)]


@lru_cache(maxsize=None)
def pairs_kept(many):
    chance = Random(many + 400)
    edges = edge_families(many)
    told = [(one, other) for one in edges for other in edges]
    if many <= 2:
        told.extend((one, other) for one in all_families(many) for other in all_families(many))
    told.extend(zip(some_families(many, 100, many + 100), some_families(many, 100, many + 200)))
    for family in edges + list(some_families(many, 25, many + 300)):
        told.extend(pairs_around(many, family, chance))
    return tuple(told)


def all_tables(many):
    """Every table of a ground of at most four names."""
    places = list(ground(many))
    for code in range(2 ** len(places)):
        yield [code // 2 ** s % 2 == 1 for s in places]


def tables_that_rise(many):
    """Every one of a small ground, those of many families of a greater one, the edges always."""
    if many <= 3:
        return [table for table in all_tables(many) if rises(many, table)]
    return [table_of(many, family) for family in edge_families(many) + list(some_families(many, 150, many + 500))]


def tables(many):
    """Every table of a small ground; of a greater one some that rise, some put otherwise here and there, drawn ones."""
    if many <= 3:
        return list(all_tables(many))
    chance = Random(many + 600)
    told = tables_that_rise(many)
    for table in list(told):
        turned = chance.sample(ground(many), chance.randint(1, 3))
        told.append([table[s] != (s in turned) for s in ground(many)])
    for turn in range(80):
        told.append([chance.randint(0, turn) > 0 for s in ground(many)])
    return told


def least_families(many):
    """Every family of a ground of at most five names that is its own least sets."""
    for table in risen_tables(many):
        yield least([s for s in ground(many) if table[s]])


def risen_tables(many):
    """Every table that rises: what is said without the last name, then, no less of it, with the last name."""
    if many == 0:
        return [(False,), (True,)]
    before = risen_tables(many - 1)
    return [low + high for low in before for high in before if all(a <= b for a, b in zip(low, high))]


def drawn_votes(many, how_many, seed):
    """Weights and bars: many alike, noughts, great ones; bars below 0, 0, in between, about the sum and beyond."""
    chance = Random(seed)
    for turn in range(how_many):
        most = (1, 2, 4, 9, 30, 10 ** 40)[turn % 6]
        weights = [chance.randint(0, most) for k in range(many)]
        sum_of_all = sum(weights)
        bars = [chance.randint(0, sum_of_all + 1), (sum_of_all + 1) // 2, -chance.randint(1, most), 0, 1, sum_of_all,
                sum_of_all + 1, sum_of_all + 7]
        yield weights, bars[0] if turn % 4 else bars[turn // 4 % len(bars)]


def vote_families(many, how_many, seed):
    """Families that go by weights, some of them with sets that aren't least put to them."""
    chance = Random(seed)
    for weights, bar in drawn_votes(many, how_many, seed):
        family = voted(weights, bar)
        above = [s for s in ground(many) if s not in family and says(family, s)]
        more = chance.sample(above, min(len(above), chance.randint(0, 3), 70 - len(family)))
        yield sorted(family + more)


def no_numbers():
    """Things that are no whole numbers."""
    return [True, False, None, "", "0", "1", "a", "none", [], [0], [1, 2], (), (0,), (1, 2), {}, {0: 1},
            set(), {1}, frozenset(), 0.0, 1.0, 2.5, float("nan"), float("inf"), 1j, b"", b"1", object(), int, len,
            range(3), [[]], [None], [True]]


def far_numbers():
    """Whole numbers that are neither sets nor numbers of names: below 0, and far beyond the end."""
    far = [-1, -2, -8, -255, -256, 10 ** 4, 2 ** 32, 2 ** 63, 2 ** 64]
    for figures in range(5, 71):
        far.extend([10 ** figures - 1, 1 - 10 ** figures])
    return far
