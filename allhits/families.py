"""Families: rising lists of sets, each once; their least and greatest sets, what they say, and their rests."""

from allhits.sets import holds, is_set, rest

MOST_SETS = 70


def is_family(many, thing):
    if not isinstance(thing, list) or len(thing) > MOST_SETS:
        return False
    before = -1
    for one in thing:
        # Whether it is a set comes first: other things may not be comparable.
        if not is_set(many, one) or one <= before:
            return False
        before = one
    return True


def least(some):
    found = []
    # What a set holds is no greater a number, so it has come before it.
    for one in sorted(set(some)):
        if not says(found, one):
            found.append(one)
    return found


def greatest(some):
    found = []
    # What holds a set is no smaller a number, so it has come before it.
    for one in reversed(sorted(set(some))):
        if not is_held(found, one):
            found.append(one)
    return sorted(found)


def says(family, one):
    for other in family:
        if holds(one, other):
            return True
    return False


def is_held(family, one):
    for other in family:
        if holds(other, one):
            return True
    return False


def rests(many, family):
    return sorted([rest(many, one) for one in family])
