import unittest
from random import Random

from allhits.papers import is_good, written
from tests import plain


class NoCompare:
    """A thing that bears no comparison."""

    def __eq__(self, other):
        raise RuntimeError("not to be compared")

    __hash__ = None


class AllAlike:
    """A thing that says of itself that it is like any other."""

    def __eq__(self, other):
        return True

    def __index__(self):
        return 0

    __hash__ = None


def other_things():
    """Things that are no papers and no parts of any."""
    return plain.no_numbers() + [NoCompare(), AllAlike(), "one", "other", "name", b"one", ["one"], ["one", 0],
                                 ["other", 0], ["name", 0, ("one", 0), ("other", 0)], ("one",), ("other",), ("name",),
                                 ("one", 0, 0), ("name", 0), ("name", 0, ("one", 0)), "One", "ONE", " one", "one ",
                                 "on", "names", ("one", "0"), ("one", 0.0), ("one", True), ("other", False),
                                 ("one", NoCompare()), (NoCompare(), 0), (AllAlike(), 0), ("one", AllAlike()),
                                 (["one"], 0), (("one",), 0), (None, 0), (0, "one"), (0, 0), {"one": 0},
                                 (("one", 0), ("other", 0)), ("name", 0, None, None), ("name", 0, (), ()),
                                 "x" * 4000, [("one", 0)] * 300]


def numbers_for(many, one, other):
    """Numbers for the place of one: all that may be right, those just beside, and ones far beyond."""
    least_one = -max(len(one), len(other), many) - 2
    near = list(range(least_one, -least_one))
    if len(near) > 40:
        near = [least_one, -len(one), -many, -1, 0, 1, many - 1, many, len(one) - 1, len(one), len(other), -least_one]
    return near + [10 ** 59, 1 - 10 ** 60, 10 ** 70 - 1, 2 ** 64, -2 ** 63]


def places(paper):
    """The place of every part of a paper, as the way to it; the paper's own is ()."""
    yield ()
    if isinstance(paper, tuple):
        for k, part in enumerate(paper):
            for place in places(part):
                yield (k,) + place


def part_at(paper, place):
    for k in place:
        paper = paper[k]
    return paper


def put(paper, place, thing):
    """The paper with the thing at the place."""
    if not place:
        return thing
    k = place[0]
    return paper[:k] + (put(paper[k], place[1:], thing),) + paper[k + 1:]


def misshapen(part):
    """A paper's parts exchanged, one too few or too many, a list in the place of the tuple."""
    told = [list(part), part[::-1], part[:-1], part[1:], (part[0],) + part[2:], part + part[-1:], part + (0,),
            part + (None,), part + (("one", 0),), part[:1] + part, (part,), (part, part), ("name",) + part[1:2]]
    if len(part) == 4:
        told.extend([part[:2] + (part[3], part[2]), part[:2], part[:3], part[:2] + ((part[2], part[3]),)])
        told.extend([part[:2] + (list(part[2]), part[3]), part[:2] + (part[2], list(part[3])), part[2], part[3]])
    return told


def drawn_paper(many, one, other, chance, taken_in=frozenset(), taken_out=frozenset()):
    """A paper with names in any order, not always as short as may be; good if one can be."""
    ends = [("one", k) for k, a in enumerate(one) if plain.names(a) <= taken_in]
    ends.extend(("other", k) for k, b in enumerate(other) if plain.names(b) <= taken_out)
    free = sorted(frozenset(range(many)) - taken_in - taken_out)
    if ends and (not free or chance.random() < 0.8):
        return chance.choice(ends)
    if not free:
        return (chance.choice(["one", "other"]), chance.randint(0, 3))
    k = chance.choice(free)
    return ("name", k, drawn_paper(many, one, other, chance, taken_in | {k}, taken_out),
            drawn_paper(many, one, other, chance, taken_in, taken_out | {k}))


def all_papers(many, depth):
    """Every paper of so many names at most so deep, with numbers of two sets."""
    told = [("one", 0), ("one", 1), ("other", 0), ("other", 1)]
    if depth > 1:
        parts = all_papers(many, depth - 1)
        told.extend(("name", k, first, second) for k in range(many) for first in parts for second in parts)
    return told


def deep(paper):
    return 1 if len(paper) == 2 else 1 + max(deep(paper[2]), deep(paper[3]))


def good_ones(many, how_many):
    """Two families that leave no set out, and a good paper of them; always the same ones."""
    chance = Random(many + 700)
    able = [(one, other) for one, other in plain.pairs(many) if not plain.left_out(many, one, other)]
    for one, other in chance.sample(able, min(len(able), how_many)):
        yield one, other, drawn_paper(many, one, other, chance)


class TestIsGood(unittest.TestCase):
    def hold(self, many, one, other, paper):
        told = is_good(many, one, other, paper)
        self.assertIs(told, plain.good(many, one, other, paper), (many, one, other, paper))
        return told

    def test_ends(self):
        self.assertIs(is_good(0, [0], [], ("one", 0)), True)
        self.assertIs(is_good(0, [], [0], ("other", 0)), True)
        self.assertIs(is_good(0, [0], [], ("other", 0)), False)
        self.assertIs(is_good(0, [], [0], ("one", 0)), False)
        self.assertIs(is_good(8, [0, 255], [], ("one", 0)), True)
        self.assertIs(is_good(8, [0, 255], [], ("one", 1)), False)
        self.assertIs(is_good(3, [1], [1], ("one", 0)), False)

    def test_names(self):
        self.assertIs(is_good(1, [1], [1], ("name", 0, ("one", 0), ("other", 0))), True)
        self.assertIs(is_good(1, [1], [1], ("name", 0, ("other", 0), ("one", 0))), False)
        self.assertIs(is_good(3, [3, 6], [2, 5], ("name", 1, ("name", 0, ("one", 0), ("name", 2, ("one", 1),
                                                                                         ("other", 1))),
                                                   ("other", 0))), True)
        self.assertIs(is_good(3, [3, 6], [2, 5], ("name", 1, ("name", 0, ("one", 1), ("name", 2, ("one", 1),
                                                                                         ("other", 1))),
                                                   ("other", 0))), False)

    def test_a_name_that_is_taken_already(self):
        end = ("name", 0, ("one", 0), ("other", 0))
        self.assertIs(is_good(2, [1], [1], end), True)
        self.assertIs(is_good(2, [1], [1], ("name", 1, end, end)), True)
        self.assertIs(is_good(2, [1], [1], ("name", 0, end, ("other", 0))), False)
        self.assertIs(is_good(2, [1], [1], ("name", 0, ("one", 0), end)), False)
        self.assertIs(is_good(2, [1], [1], ("name", 1, ("name", 1, end, end), end)), False)

    def test_a_name_that_is_none_of_the_ground(self):
        for many in range(9):
            for k in [-1, many, many + 1, 9, 10 ** 60, -10 ** 60]:
                paper = ("name", k, ("one", 0), ("one", 0))
                self.assertIs(is_good(many, [0], [0], paper), False, (many, k))

    def test_numbers_below_0_and_beyond_the_end(self):
        for k in [-1, -2, -3, 2, 3, 10 ** 60, -10 ** 60]:
            self.assertIs(is_good(2, [0, 1], [0, 1], ("one", k)), False, k)
            self.assertIs(is_good(2, [0, 1], [0, 1], ("other", k)), False, k)
        self.assertIs(is_good(2, [], [], ("one", -1)), False)

    def test_truths_in_the_place_of_numbers(self):
        self.assertIs(is_good(1, [0], [], ("one", 0)), True)
        self.assertIs(is_good(1, [0], [], ("one", False)), False)
        self.assertIs(is_good(1, [], [0], ("other", False)), False)
        self.assertIs(is_good(2, [1], [1], ("name", False, ("one", 0), ("other", 0))), False)
        paper = ("name", 1, ("one", 0), ("other", 0))
        self.assertIs(is_good(2, [2], [2], paper), True)
        self.assertIs(is_good(2, [2], [2], ("name", True) + paper[2:]), False)
        self.assertIs(is_good(2, [1, 2], [1, 2], ("name", 1, ("one", 1), ("other", 1))), True)
        self.assertIs(is_good(2, [1, 2], [1, 2], ("name", 1, ("one", True), ("other", 1))), False)
        self.assertIs(is_good(2, [1, 2], [1, 2], ("name", 1, ("one", 1), ("other", True))), False)

    def test_families_of_seventy_sets(self):
        fours, fives = plain.of_size(8, 4), plain.of_size(8, 5)
        paper = drawn_paper(8, fours, fives, Random(1))
        self.assertIs(is_good(8, fours, fives, paper), True)
        self.assertIs(is_good(8, fives, fours, paper), False)
        self.assertIs(is_good(8, fours[:-1], fives, paper), False)
        self.assertIs(is_good(8, list(range(70)), [], ("one", 0)), True)
        self.assertIs(is_good(8, list(range(70)), [], ("one", 69)), False)

    def test_papers_of_all_depths(self):
        for many in range(9):
            whole = 2 ** many - 1
            paper = ("one", 0)
            for k in range(many):
                paper = ("name", k, paper, ("other", k))
            self.assertIs(is_good(many, [whole], [2 ** k for k in range(many)], paper), True, many)
            self.assertEqual(deep(paper), many + 1)

    def test_good_papers_whoever_wrote_them(self):
        for many in range(9):
            for one, other, paper in good_ones(many, 60):
                self.assertIs(self.hold(many, one, other, paper), True)

    def test_drawn_papers_of_any_two_families(self):
        for many in range(9):
            chance = Random(many + 800)
            for one, other in plain.pairs(many)[::5]:
                good = self.hold(many, one, other, drawn_paper(many, one, other, chance))
                self.assertIs(good, not plain.left_out(many, one, other), (many, one, other))

    def test_every_paper_of_small_grounds(self):
        for many in range(3):
            families = [family for family in plain.all_families(many) if len(family) <= 2]
            papers = all_papers(many, many + 1)
            for one in families:
                for other in families[::2]:
                    left = plain.left_out(many, one, other)
                    good = [paper for paper in papers if self.hold(many, one, other, paper)]
                    self.assertIs(len(good) > 0, not left, (many, one, other))

    def test_other_numbers_and_things_in_the_place_of_each_part(self):
        for many in range(9):
            chance = Random(many + 900)
            for one, other, paper in good_ones(many, 12 if many < 5 else 4):
                found = list(places(paper))
                for place in chance.sample(found, min(len(found), 20)):
                    for thing in other_things() + numbers_for(many, one, other):
                        self.hold(many, one, other, put(paper, place, thing))

    def test_other_words_and_shapes_at_each_part(self):
        for many in range(9):
            chance = Random(many + 1000)
            for one, other, paper in good_ones(many, 20):
                found = [place for place in places(paper) if isinstance(part_at(paper, place), tuple)]
                for place in chance.sample(found, min(len(found), 10)):
                    part = part_at(paper, place)
                    for word in ("one", "other", "name"):
                        self.hold(many, one, other, put(paper, place + (0,), word))
                    for thing in misshapen(part):
                        self.hold(many, one, other, put(paper, place, thing))

    def test_a_list_in_the_place_of_a_tuple(self):
        for many in range(9):
            for one, other, paper in good_ones(many, 20):
                for place in places(paper):
                    if isinstance(part_at(paper, place), tuple):
                        wrong = put(paper, place, list(part_at(paper, place)))
                        self.assertIs(is_good(many, one, other, wrong), False, wrong)

    def test_things_that_are_no_papers(self):
        for many in range(9):
            for one, other in (([], []), ([0], []), ([], [0]), ([0], [0]), ([0, 2 ** many - 1], [0])):
                for thing in other_things() + plain.far_numbers() + [0, 1, 2]:
                    self.assertIs(is_good(many, one, other, thing), False, (many, one, other))

    def test_a_part_that_is_none_behind_one_that_is_good(self):
        for thing in other_things():
            self.assertIs(is_good(1, [0], [0], ("name", 0, ("one", 0), thing)), False)
            self.assertIs(is_good(1, [0], [0], ("name", 0, thing, ("one", 0))), False)

    def test_nothing_is_changed(self):
        for many in range(9):
            for one, other, paper in good_ones(many, 10):
                kept = (list(one), list(other))
                wrong = list(paper)
                kept_wrong = list(wrong)
                is_good(many, one, other, paper)
                is_good(many, one, other, wrong)
                self.assertEqual((one, other), kept)
                self.assertEqual(wrong, kept_wrong)


class TestWritten(unittest.TestCase):
    def hold_kinds(self, paper):
        self.assertIs(type(paper), tuple)
        self.assertIs(type(paper[0]), str)
        self.assertIs(type(paper[1]), int)
        for part in paper[2:]:
            self.hold_kinds(part)

    def test_the_families_without_sets_and_with_the_set_0(self):
        for many in range(9):
            whole = 2 ** many - 1
            self.assertIsNone(written(many, [], []))
            for one, other in (([0], []), ([], [0]), ([0], [0]), (sorted({0, whole}), []), ([], sorted({0, whole}))):
                paper = written(many, one, other)
                self.assertTrue(plain.good(many, one, other, paper), (many, one, other))
                self.assertTrue(is_good(many, one, other, paper), (many, one, other))

    def test_each_others(self):
        for many in range(9):
            for family in plain.families(many):
                met = plain.hits(many, family)
                self.assertTrue(plain.good(many, family, met, written(many, family, met)), (many, family))

    def test_not_each_others_but_no_set_left_out(self):
        for many, one, other in ((1, [1], [0, 1]), (2, [1, 2], [1, 2]), (2, [1, 2, 3], [1, 2, 3]), (3, [1], [1, 6]),
                                 (3, [2, 5], [1, 2, 4]), (8, [1, 254], [1, 2])):
            self.assertNotEqual(plain.hits(many, one), plain.least(other))
            self.assertTrue(plain.good(many, one, other, written(many, one, other)), (many, one, other))

    def test_good_or_none_just_where_it_is_asked(self):
        for many in range(9):
            for one, other in plain.pairs(many):
                paper = written(many, one, other)
                if plain.left_out(many, one, other):
                    self.assertIsNone(paper, (many, one, other))
                else:
                    self.assertTrue(plain.good(many, one, other, paper), (many, one, other))
                    self.assertIs(is_good(many, one, other, paper), True, (many, one, other))

    def test_at_most_nine_deep_of_tuples_words_and_whole_numbers(self):
        for many in range(9):
            for one, other in plain.pairs(many):
                paper = written(many, one, other)
                if paper is not None:
                    self.hold_kinds(paper)
                    self.assertLessEqual(deep(paper), 9, (many, one, other))

    def test_families_of_seventy_sets(self):
        fours, fives = plain.of_size(8, 4), plain.of_size(8, 5)
        for one, other in ((fours, fives), (fives, fours), (fours, fours)):
            self.assertTrue(plain.good(8, one, other, written(8, one, other)))
        self.assertIsNone(written(8, fives, fives))
        self.assertIsNone(written(8, fours[:-1], fives))
        self.assertIsNone(written(8, fours, fives[1:]))
        self.assertIsNone(written(8, list(range(186, 256)), list(range(186, 256))[1:]))

    def test_nothing_is_changed_and_what_is_told_stays(self):
        for many in range(9):
            for one, other in plain.pairs(many)[::9]:
                kept = (list(one), list(other))
                written(many, one, other)
                self.assertEqual((one, other), kept)
        one, other = [3, 6], [2, 5]
        told = written(3, one, other)
        one.clear()
        other.append(7)
        self.assertIsNone(written(3, one, other))
        self.assertTrue(plain.good(3, [3, 6], [2, 5], told))
        self.assertEqual(written(3, [3, 6], [2, 5]), told)


if __name__ == "__main__":
    unittest.main()
