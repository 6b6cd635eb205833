import unittest
from functools import lru_cache
from itertools import combinations, permutations
from random import Random

from allhits.families import least
from allhits.heavier import compared, ranks, turns
from allhits.hits import hits
from allhits.parts import exchanged
from tests import plain

TURNED_ROUND = {"alike": "alike", "heavier": "lighter", "lighter": "heavier", "apart": "apart"}


def families(many):
    """Every family of a small ground, drawn ones of a greater one, least ones of few names, such as go by weights."""
    return [list(family) for family in families_kept(many)]


@lru_cache(maxsize=None)
def families_kept(many):
    told = list(plain.families(many)) + list(plain.vote_families(many, 60, many + 1300))
    if many <= 5:
        told.extend(list(plain.least_families(many))[::60 if many == 5 else 1])
    return list(dict.fromkeys(tuple(family) for family in told))


class TestCompared(unittest.TestCase):
    """[20]"""

    def test_plain_ones(self):
        self.assertEqual(compared(3, [3, 6], 0, 1), ("lighter", 4))
        self.assertEqual(compared(3, [3, 6], 1, 0), ("heavier", 4))
        self.assertEqual(compared(3, [3, 6], 0, 2), ("alike",))
        self.assertEqual(compared(3, [1, 6], 0, 1), ("heavier", 0))
        self.assertEqual(compared(4, [3, 12], 0, 2), ("apart", 2, 8))
        self.assertEqual(compared(4, [3, 12], 2, 0), ("apart", 8, 2))
        self.assertEqual(compared(4, [3, 12], 0, 1), ("alike",))

    def test_the_first_set_is_told(self):
        # By 0 yes is said with 1, with 2 and with both; the first of them is told.
        self.assertEqual(compared(4, [3, 5], 0, 3), ("heavier", 2))
        self.assertEqual(compared(4, [5, 9], 0, 1), ("heavier", 4))
        self.assertEqual(compared(4, [3, 5], 3, 0), ("lighter", 2))
        self.assertEqual(compared(5, [9, 17, 6], 0, 1), ("apart", 8, 4))

    def test_a_set_that_has_one_of_the_two_parts_nothing(self):
        self.assertEqual(compared(2, [3], 0, 1), ("alike",))
        self.assertEqual(compared(3, [7], 0, 2), ("alike",))
        self.assertEqual(compared(3, [3], 0, 1), ("alike",))

    def test_the_family_without_sets_and_one_with_the_set_0(self):
        for many in range(2, 9):
            for x, y in permutations(range(many), 2):
                self.assertEqual(compared(many, [], x, y), ("alike",))
                self.assertEqual(compared(many, [0], x, y), ("alike",))
                self.assertEqual(compared(many, list(range(2 ** many))[:70], x, y), ("alike",))

    def test_a_name_alone(self):
        for many in range(2, 9):
            for x, y in permutations(range(many), 2):
                self.assertEqual(compared(many, [2 ** x], x, y), ("heavier", 0))
                self.assertEqual(compared(many, [2 ** y], x, y), ("lighter", 0))

    def test_families_of_seventy_sets(self):
        fours = plain.of_size(8, 4)
        without = [s for s in fours if s != 15]
        for x, y in permutations(range(8), 2):
            self.assertEqual(compared(8, fours, x, y), ("alike",))
            self.assertEqual(compared(8, without, x, y), plain.compared(8, without, x, y))
        self.assertEqual(compared(8, without, 0, 7), ("lighter", 14))
        self.assertEqual(compared(8, without, 7, 0), ("heavier", 14))

    def test_a_family_that_is_not_its_own_least_sets(self):
        self.assertEqual(compared(3, [1, 3, 6, 7], 1, 2), ("alike",))
        self.assertEqual(compared(3, [1, 2, 3, 5, 7], 0, 1), ("alike",))
        for many in range(2, 7):
            for family in families(many)[-60:]:
                for x, y in combinations(range(many), 2):
                    told = compared(many, family, x, y)
                    self.assertEqual(compared(many, least(family), x, y), told, (many, family, x, y))

    def test_held_against_a_plain_walk(self):
        for many in range(9):
            for family in families(many):
                for x, y in permutations(range(many), 2):
                    told = compared(many, family, x, y)
                    self.assertEqual(told, plain.compared(many, family, x, y), (many, family, x, y))

    def test_the_other_way_round_for_the_names_in_the_other_order(self):
        for many in range(9):
            for family in families(many):
                for x, y in combinations(range(many), 2):
                    told, other = compared(many, family, x, y), compared(many, family, y, x)
                    self.assertEqual(other[0], TURNED_ROUND[told[0]], (many, family, x, y))
                    self.assertEqual(other[1:], told[:0:-1], (many, family, x, y))

    def test_of_a_family_and_its_hits_the_same_word(self):
        for many in range(9):
            for family in families(many)[::2]:
                met = hits(many, family)
                for x, y in combinations(range(many), 2):
                    told = compared(many, family, x, y)[0]
                    self.assertEqual(compared(many, met, x, y)[0], told, (many, family, x, y))

    def test_heavier_or_alike_goes_on_to_a_third(self):
        for many in (3, 4, 5):
            for family in families(many)[-120:]:
                no_less = [[x == y or compared(many, family, x, y)[0] in ("heavier", "alike") for y in range(many)]
                           for x in range(many)]
                for x, y, z in permutations(range(many), 3):
                    self.assertTrue(no_less[x][z] or not (no_less[x][y] and no_less[y][z]), (family, x, y, z))

    def test_all_four_words_are_told_of_drawn_families(self):
        for many in range(4, 9):
            told = [compared(many, family, 0, 1)[0] for family in families(many)]
            self.assertEqual(sorted(set(told)), ["alike", "apart", "heavier", "lighter"])

    def test_kinds(self):
        for family, x, y in (([3, 6], 0, 2), ([3, 6], 0, 1), ([3, 6], 1, 0), ([3, 12], 0, 2)):
            told = compared(4, family, x, y)
            self.assertIs(type(told), tuple)
            self.assertEqual([type(part) for part in told], [str] + [int] * (len(told) - 1))


class TestTurns(unittest.TestCase):
    """[21]"""

    def test_plain_ones(self):
        self.assertEqual(turns(3, [3, 6]), [1, 3, 1])
        self.assertEqual(turns(3, [3, 5, 6]), [2, 2, 2])
        self.assertEqual(turns(2, [1]), [2, 0])
        self.assertEqual(turns(3, [1, 6]), [3, 1, 1])
        self.assertEqual(turns(3, [7]), [1, 1, 1])

    def test_the_ground_of_no_names(self):
        self.assertEqual(turns(0, []), [])
        self.assertEqual(turns(0, [0]), [])

    def test_the_family_without_sets_and_one_with_the_set_0(self):
        for many in range(9):
            self.assertEqual(turns(many, []), [0] * many)
            self.assertEqual(turns(many, [0]), [0] * many)
            self.assertEqual(turns(many, list(range(2 ** many))[:70]), [0] * many)

    def test_families_of_seventy_sets(self):
        # Each name turns just the sets of three other names.
        self.assertEqual(turns(8, plain.of_size(8, 4)), [35] * 8)
        self.assertEqual(turns(8, [2 ** k for k in range(8)]), [1] * 8)
        self.assertEqual(turns(8, [1]), [128] + [0] * 7)

    def test_held_against_a_plain_walk(self):
        for many in range(9):
            for family in families(many):
                self.assertEqual(turns(many, family), plain.turns(many, family), (many, family))

    def test_heavier_ones_turn_more_and_alike_ones_as_many(self):
        for many in range(9):
            for family in families(many)[::3]:
                told = turns(many, family)
                for x, y in combinations(range(many), 2):
                    word = compared(many, family, x, y)[0]
                    if word != "apart":
                        expected = "heavier" if told[x] > told[y] else "lighter" if told[x] < told[y] else "alike"
                        self.assertEqual(word, expected, (many, family, x, y))

    def test_the_hits_have_the_same_turns(self):
        for many in range(9):
            for family in families(many):
                self.assertEqual(turns(many, hits(many, family)), turns(many, family), (many, family))

    def test_a_family_and_its_least_sets_have_the_same_turns(self):
        for many in range(9):
            for family in families(many):
                self.assertEqual(turns(many, least(family)), turns(many, family), (many, family))

    def test_kinds(self):
        told = turns(3, [3, 6])
        self.assertIs(type(told), list)
        self.assertEqual([type(part) for part in told], [int, int, int])


class TestRanks(unittest.TestCase):
    """[22]"""

    def test_plain_ones(self):
        self.assertEqual(ranks(3, [3, 6]), ("ranks", [[1], [0, 2]]))
        self.assertEqual(ranks(3, [3, 5, 6]), ("ranks", [[0, 1, 2]]))
        self.assertEqual(ranks(3, [4]), ("ranks", [[2], [0, 1]]))
        self.assertEqual(ranks(4, [9, 10, 12]), ("ranks", [[3], [0, 1, 2]]))
        self.assertEqual(ranks(4, [3, 12]), ("apart", 0, 2, 2, 8))
        self.assertEqual(ranks(4, [5, 10]), ("apart", 0, 1, 4, 8))

    def test_the_first_two_names_apart_are_told(self):
        # 0 and 1 are alike, and so are 2 and 3; each of the ones is apart from each of the others.
        self.assertEqual(ranks(5, [3, 12, 16]), ("apart", 0, 2, 2, 8))
        # 0 turns nothing, so the first that is apart comes later.
        self.assertEqual(ranks(5, [6, 24]), ("apart", 1, 3, 4, 16))
        self.assertEqual(ranks(5, [10, 20]), ("apart", 1, 2, 8, 16))

    def test_the_ground_of_no_names_and_of_one(self):
        self.assertEqual(ranks(0, []), ("ranks", []))
        self.assertEqual(ranks(0, [0]), ("ranks", []))
        for family in ([], [0], [1], [0, 1]):
            self.assertEqual(ranks(1, family), ("ranks", [[0]]))

    def test_the_family_without_sets_and_one_with_the_set_0(self):
        for many in range(1, 9):
            for family in ([], [0], list(range(2 ** many))[:70], [0, 2 ** many - 1]):
                self.assertEqual(ranks(many, family), ("ranks", [list(range(many))]))

    def test_families_of_seventy_sets(self):
        fours = plain.of_size(8, 4)
        self.assertEqual(ranks(8, fours), ("ranks", [[0, 1, 2, 3, 4, 5, 6, 7]]))
        self.assertEqual(ranks(8, [s for s in fours if s != 15]), ("ranks", [[4, 5, 6, 7], [0, 1, 2, 3]]))
        self.assertEqual(ranks(8, [s for s in fours if s not in (15, 240)])[:3], ("apart", 0, 4))
        for family in (list(range(186, 256)), list(range(100, 170)), list(range(3, 213, 3))):
            self.assertEqual(ranks(8, family), plain.ranks(8, family))

    def test_each_name_a_rank_of_its_own(self):
        for order in permutations(range(1, 6)):
            expected = [[order.index(weight)] for weight in (5, 4, 3, 2, 1)]
            self.assertEqual(ranks(5, plain.voted(list(order), 7)), ("ranks", expected), order)

    def test_held_against_a_plain_walk(self):
        for many in range(9):
            for family in families(many):
                self.assertEqual(ranks(many, family), plain.ranks(many, family), (many, family))

    def test_weights_are_never_apart_and_rank_as_they_weigh(self):
        for many in range(9):
            for weights, bar in plain.drawn_votes(many, 60, many + 1400):
                word, lists = ranks(many, plain.voted(weights, bar))
                self.assertEqual(word, "ranks")
                place = {k: number for number, some in enumerate(lists) for k in some}
                for x, y in permutations(range(many), 2):
                    if weights[x] >= weights[y]:
                        self.assertLessEqual(place[x], place[y], (weights, bar))

    def test_of_a_family_and_its_hits_the_same_ranks_or_the_same_two_names_apart(self):
        for many in range(9):
            for family in families(many):
                told, of_hits = ranks(many, family), ranks(many, hits(many, family))
                same = 3 if told[0] == "apart" else 2
                self.assertEqual(of_hits[:same], told[:same], (many, family))
                self.assertEqual(len(of_hits), len(told))

    def test_a_family_and_its_least_sets_have_the_same_ranks(self):
        for many in range(9):
            for family in families(many):
                self.assertEqual(ranks(many, least(family)), ranks(many, family), (many, family))

    def test_both_words_are_told_of_drawn_families(self):
        for many in range(4, 9):
            told = [ranks(many, family)[0] for family in families(many)]
            self.assertGreaterEqual(told.count("apart"), 18, many)
            self.assertGreaterEqual(told.count("ranks"), 40, many)

    def test_kinds(self):
        told = ranks(3, [3, 6])
        self.assertEqual([type(part) for part in told], [str, list])
        self.assertEqual([type(part) for part in told[1]], [list, list])
        self.assertIs(type(told), tuple)
        told = ranks(4, [3, 12])
        self.assertIs(type(told), tuple)
        self.assertEqual([type(part) for part in told], [str, int, int, int, int])


class TestExchangedNames(unittest.TestCase):
    """[19], of what this stage tells."""

    def test_all_goes_with_it(self):
        chance = Random(1500)
        for many in range(9):
            for family in families(many)[::9]:
                order = chance.sample(range(many), many)
                moved = exchanged(order, family)
                told, counts = ranks(many, family), turns(many, family)
                self.assertEqual([turns(many, moved)[order[k]] for k in range(many)], counts, (order, family))
                for x, y in permutations(range(many), 2):
                    word = compared(many, family, x, y)[0]
                    self.assertEqual(compared(many, moved, order[x], order[y])[0], word, (order, family))
                if told[0] == "ranks":
                    moved_lists = [sorted(order[k] for k in some) for some in told[1]]
                    self.assertEqual(ranks(many, moved), ("ranks", moved_lists), (order, family))
                else:
                    self.assertEqual(ranks(many, moved)[0], "apart", (order, family))


class TestTheAskersOwn(unittest.TestCase):
    some = ([], [0], [3, 6], [1, 3, 7], [3, 12], [9, 10, 12])

    def test_nothing_is_changed(self):
        for family in self.some:
            kept = list(family)
            for x, y in permutations(range(4), 2):
                compared(4, family, x, y)
            turns(4, family)
            ranks(4, family)
            self.assertEqual(family, kept)

    def test_told_turns_are_the_askers_own(self):
        for family in self.some:
            handed_in = list(family)
            told = turns(4, handed_in)
            kept = list(told)
            told.append(77)
            told.reverse()
            self.assertEqual(handed_in, family)
            again = turns(4, handed_in)
            self.assertEqual(again, kept)
            handed_in.append(15)
            handed_in.reverse()
            self.assertEqual(again, kept)

    def test_told_ranks_are_the_askers_own(self):
        for family in ([], [0], [3, 6], [1, 3, 7], [9, 10, 12]):
            handed_in = list(family)
            told = ranks(4, handed_in)
            kept = [list(some) for some in told[1]]
            for some in told[1]:
                some.append(77)
            told[1].reverse()
            told[1].append([5])
            self.assertEqual(handed_in, family)
            again = ranks(4, handed_in)
            self.assertEqual(again, ("ranks", kept))
            handed_in.insert(0, 0)
            self.assertEqual(again, ("ranks", kept))


if __name__ == "__main__":
    unittest.main()
