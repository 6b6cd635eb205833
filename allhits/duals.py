"""Two families held against each other: whether the hits of the one are the least sets of the other."""

from allhits.families import says
from allhits.hits import first_missed
from allhits.sets import rest


def held(many, one, other):
    for a in one:
        b = first_missed(other, a)
        if b is not None:
            return ("apart", a, b)
    s = first_left_out(many, one, other)
    if s is not None:
        return ("neither", s)
    return ("each",)


def first_left_out(many, one, other):
    for s in range(1 << many):
        if not says(one, s) and not says(other, rest(many, s)):
            return s
    return None
