"""Tables: what is said of each set of the ground, where it falls, and the families that tell one that rises."""

from allhits.families import greatest, is_held, least, rests, says
from allhits.hits import hits


def falls(many, table):
    # Between a yes and a no that holds it names can be put one by one, so single names find every fall.
    for s in range(1 << many):
        if table[s]:
            k = first_name_to_a_no(many, table, s)
            if k is not None:
                return (s, k)
    return None


def first_name_to_a_no(many, table, s):
    # With a name that s has already it stays s, of which yes is said.
    for k in range(many):
        if not table[s | 1 << k]:
            return k
    return None


def yeses(many, table):
    return least([s for s in range(1 << many) if table[s]])


def noes(many, table):
    return greatest([s for s in range(1 << many) if not table[s]])


def table_of(many, family):
    return [says(family, s) for s in range(1 << many)]


def table_of_noes(many, family):
    return [not is_held(family, s) for s in range(1 << many)]


def noes_by(many, family):
    return rests(many, hits(many, family))


def yeses_by(many, family):
    return hits(many, rests(many, family))
