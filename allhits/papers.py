"""Papers: each good one shows that every set holds a set of the one family, or its rest a set of the other."""

from allhits.sets import holds, is_whole


def is_good(many, one, other, paper):
    return is_good_with(many, one, other, paper, 0, 0)


def is_good_with(many, one, other, paper, taken_in, taken_out):
    if not begins_as_a_paper(paper):
        return False
    word = paper[0]
    k = paper[1]
    if len(paper) == 2 and word == "one":
        return is_taken(one, k, taken_in)
    if len(paper) == 2 and word == "other":
        return is_taken(other, k, taken_out)
    # No name is taken twice, so that a thing of any depth is looked at no deeper than there are names.
    if len(paper) == 4 and word == "name" and is_free(many, k, taken_in | taken_out):
        return (is_good_with(many, one, other, paper[2], taken_in | 1 << k, taken_out)
                and is_good_with(many, one, other, paper[3], taken_in, taken_out | 1 << k))
    return False


def begins_as_a_paper(thing):
    # The kinds come first: things of other kinds may not bear to be compared.
    return isinstance(thing, tuple) and len(thing) >= 2 and isinstance(thing[0], str) and is_whole(thing[1])


def is_taken(family, k, taken):
    return 0 <= k < len(family) and holds(taken, family[k])


def is_free(many, k, taken):
    # The bounds come first: a number of sixty figures is no width for a shift.
    return 0 <= k < many and taken >> k & 1 == 0


def written(many, one, other):
    return written_from(many, one, other, 0, 0, 0)


def written_from(many, one, other, k, taken_in, taken_out):
    number = first_taken(one, taken_in)
    if number is not None:
        return ("one", number)
    number = first_taken(other, taken_out)
    if number is not None:
        return ("other", number)
    # All names are taken, so what is taken in is a set that both families leave out.
    if k == many:
        return None
    first = written_from(many, one, other, k + 1, taken_in | 1 << k, taken_out)
    if first is None:
        return None
    second = written_from(many, one, other, k + 1, taken_in, taken_out | 1 << k)
    if second is None:
        return None
    return ("name", k, first, second)


def first_taken(family, taken):
    for number, one in enumerate(family):
        if holds(taken, one):
            return number
    return None
