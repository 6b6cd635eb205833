"""Sets of a ground of a few names: whole numbers, the bit with the number k set where the set has the name k."""

MOST_NAMES = 8


def is_whole(thing):
    # To Python True and False are ints too; here they are no numbers.
    return isinstance(thing, int) and not isinstance(thing, bool)


def is_many(thing):
    return is_whole(thing) and 0 <= thing <= MOST_NAMES


def is_set(many, thing):
    return is_whole(thing) and 0 <= thing < 1 << many


def names_in(one):
    return [k for k in range(one.bit_length()) if one >> k & 1 == 1]


def set_of(names):
    one = 0
    for k in names:
        one = one | 1 << k
    return one


def holds(one, other):
    return one & other == other


def meets(one, other):
    return one & other != 0


def rest(many, one):
    whole_ground = (1 << many) - 1
    return whole_ground & ~one
