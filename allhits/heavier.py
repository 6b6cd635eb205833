"""Heavier names: which of two can do more in a family, how many sets each turns, and how they rank."""

from allhits.sets import meets
from allhits.tables import table_of


def compared(many, family, x, y):
    return compared_in(many, table_of(many, family), x, y)


def compared_in(many, table, x, y):
    s = first_parting(many, table, x, y)
    t = first_parting(many, table, y, x)
    if s is None and t is None:
        return ("alike",)
    if t is None:
        return ("heavier", s)
    if s is None:
        return ("lighter", t)
    return ("apart", s, t)


def first_parting(many, table, x, y):
    x_alone = 1 << x
    y_alone = 1 << y
    for s in range(1 << many):
        if not meets(s, x_alone | y_alone) and table[s | x_alone] and not table[s | y_alone]:
            return s
    return None


def turns(many, family):
    table = table_of(many, family)
    return [turned_by(many, table, k) for k in range(many)]


def turned_by(many, table, k):
    # A set that has k already stays what it is with k, so it is never counted.
    return len([s for s in range(1 << many) if not table[s] and table[s | 1 << k]])


def ranks(many, family):
    table = table_of(many, family)
    for x in range(many):
        for y in range(x + 1, many):
            told = compared_in(many, table, x, y)
            if told[0] == "apart":
                return ("apart", x, y, told[1], told[2])
    return ("ranks", ranked(turns(many, family)))


def ranked(counts):
    # Where no names are apart, alike ones turn as many sets and a heavier one more than a lighter one.
    lists = []
    for count in reversed(sorted(set(counts))):
        lists.append([k for k, turned in enumerate(counts) if turned == count])
    return lists
