"""What meets a family: its hits, the least meeting sets, and how a set stands to it."""

from allhits.families import says
from allhits.sets import meets, names_in


def hits(many, family):
    found = []
    # What a set holds is no greater a number, so a hit that it holds is found before it.
    for one in range(1 << many):
        if not says(found, one) and first_missed(family, one) is None:
            found.append(one)
    return found


def looked(family, one):
    missed = first_missed(family, one)
    if missed is not None:
        return ("misses", missed)
    own = []
    for k in names_in(one):
        other = first_met_by_alone(family, one, k)
        # A set that meets the family can do without just those names by which alone it meets none.
        if other is None:
            return ("spare", k)
        own.append((k, other))
    return ("least", own)


def first_missed(family, one):
    for other in family:
        if not meets(one, other):
            return other
    return None


def first_met_by_alone(family, one, k):
    for other in family:
        if one & other == 1 << k:
            return other
    return None
