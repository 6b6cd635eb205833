"""Votes: the family of weights and a bar, and whether a family goes by weights, borne out either way."""

from allhits.errors import TooMany
from allhits.families import least
from allhits.heavier import ranks
from allhits.sets import names_in
from allhits.tables import noes_by

MOST_VOTERS = 5
# Of so few names each family without names apart has weights up to this; the tests walk through all of them.
MOST_WEIGHT = 5


def weight_of(weights, one):
    return sum([weights[k] for k in names_in(one)])


def voted(weights, bar):
    return least([s for s in range(1 << len(weights)) if weight_of(weights, s) >= bar])


def by_weights(many, family):
    if many > MOST_VOTERS:
        raise TooMany("weights are told of grounds of at most five names")
    told = ranks(many, family)
    if told[0] == "apart":
        return traded(told[1], told[2], told[3], told[4])
    return weighed(many, family, told[1])


def traded(x, y, s, t):
    # Of s with x and t with y yes is said; with the two names changed over, no.
    yes = sorted([s | 1 << x, t | 1 << y])
    no = sorted([s | 1 << y, t | 1 << x])
    return ("trade", yes, no)


def weighed(many, family, lists):
    yes = least(family)
    no = noes_by(many, family)
    # Alike names may always weigh the same, and of others the heavier one must weigh more.
    for falling in falling_lists(len(lists), MOST_WEIGHT):
        weights = given_out(many, lists, falling)
        bar = bar_between(weights, yes, no)
        if bar is not None:
            return ("weights", weights, bar)


def falling_lists(length, most):
    if length == 0:
        return [[]]
    told = []
    for first in range(most + 1):
        told.extend([[first] + others for others in falling_lists(length - 1, first - 1)])
    return told


def given_out(many, lists, falling):
    weights = [0] * many
    for names, weight in zip(lists, falling):
        for k in names:
            weights[k] = weight
    return weights


def bar_between(weights, yes, no):
    # No weight is below 0: what holds a yes set weighs no less, what a no set holds no more.
    bar = max([weight_of(weights, s) for s in no], default=-1) + 1
    if min([weight_of(weights, s) for s in yes], default=bar) >= bar:
        return bar
    return None
