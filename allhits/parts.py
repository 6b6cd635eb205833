"""Parts: families with a name always in or always out, two of them joined, and names exchanged."""

from allhits.families import least
from allhits.sets import names_in, set_of


def always_in(family, k):
    return least([one & ~(1 << k) for one in family])


def always_out(family, k):
    return [one for one in least(family) if one >> k & 1 == 0]


def either(one, other):
    return least(one + other)


def both(one, other):
    joined = []
    for a in one:
        joined.extend([a | b for b in other])
    return least(joined)


def exchanged_set(order, one):
    return set_of([order[k] for k in names_in(one)])


def exchanged(order, family):
    return sorted([exchanged_set(order, one) for one in family])
