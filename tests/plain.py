"""The document's own words, walked through one by one, and what the tests hold the program against.

Names are kept here as Python's frozensets, never as bits, so that nothing is shared with the program.
"""

from functools import lru_cache
from itertools import combinations
from random import Random


@lru_cache(maxsize=None)
def names(one):
    """The names of a set, by [4]: k where the bit with the number k is set."""
    return frozenset(k for k in range(12) if one // 2 ** k % 2 == 1)


def ground(many):
    """All sets of the ground, rising."""
    return range(2 ** many)


def least(some):
    return sorted({a for a in some if not any(names(b) < names(a) for b in some)})


def greatest(some):
    return sorted({a for a in some if not any(names(b) > names(a) for b in some)})


def says(family, one):
    return any(names(other) <= names(one) for other in family)


def meets_all(family, had):
    return all(had & names(other) for other in family)


def hits(many, family):
    """By [8]: the sets that meet the family and hold no other set that does."""
    meeting = [s for s in ground(many) if meets_all(family, names(s))]
    return least(meeting)


def looked(family, one):
    """By [9], in the order in which it is told."""
    had = names(one)
    missed = [other for other in family if not had & names(other)]
    if missed:
        return ("misses", missed[0])
    spare = [k for k in sorted(had) if meets_all(family, had - {k})]
    if spare:
        return ("spare", spare[0])
    own = []
    for k in sorted(had):
        alone = [other for other in family if had & names(other) == {k}]
        own.append((k, alone[0]))
    return ("least", own)


def of_size(many, size):
    """All sets of the ground with so many names, rising."""
    return sorted(sum(2 ** k for k in some) for some in combinations(range(many), size))


def all_families(many):
    """Every family of the ground, of at most four names."""
    sets = list(ground(many))
    for number in range(2 ** len(sets)):
        yield [s for s in sets if number // 2 ** s % 2 == 1]


def some_families(many, how_many, seed):
    """Families of the ground, few sets and many, of small sets and of great ones; always the same ones."""
    chance = Random(seed)
    for turn in range(how_many):
        fewest = chance.randint(0, many)
        most = chance.randint(fewest, many)
        pool = [s for s in ground(many) if fewest <= len(names(s)) <= most]
        wanted = chance.randint(0, (3, 6, 12, 30, 70)[turn % 5])
        yield sorted(chance.sample(pool, min(len(pool), wanted)))


def edge_families(many):
    """The edges that the document names, as far as the ground has them."""
    whole = 2 ** many - 1
    told = [[], [0], [whole], sorted({0, whole}), list(ground(many))[:70], list(ground(many))[-70:]]
    told.extend(of_size(many, size) for size in range(many + 1))
    return told


def families(many):
    """Every family of a small ground, many ones of a greater one, the edges always."""
    yield from edge_families(many)
    if many <= 3:
        yield from all_families(many)
    else:
        yield from some_families(many, 300, many)


def no_numbers():
    """Things that are no whole numbers."""
    return [True, False, None, "", "0", "1", "a", "none", [], [0], [1, 2], (), (0,), (1, 2), {}, {0: 1},
            set(), {1}, frozenset(), 0.0, 1.0, 2.5, float("nan"), float("inf"), 1j, b"", b"1", object(), int, len,
            range(3), [[]], [None], [True]]


def far_numbers():
    """Whole numbers that are neither sets nor numbers of names: below 0, and far beyond the end."""
    far = [-1, -2, -8, -255, -256, 10 ** 4, 2 ** 32, 2 ** 63, 2 ** 64]
    for figures in range(5, 71):
        far.extend([10 ** figures - 1, 1 - 10 ** figures])
    return far
