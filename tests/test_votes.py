import unittest
from functools import lru_cache
from itertools import combinations, product
from random import Random

from allhits.errors import HitError, TooMany
from allhits.families import is_family, least, says
from allhits.hits import hits
from allhits.parts import exchanged
from allhits.votes import by_weights, voted, weight_of
from tests import plain

GREAT = [10 ** 40, 10 ** 40 - 1, 3 * 10 ** 39 + 7, 1, 0, 10 ** 39, 2 * 10 ** 40, 10 ** 40]


@lru_cache(maxsize=None)
def least_families_kept(many):
    return [tuple(family) for family in plain.least_families(many)]


def least_families(many):
    return [list(family) for family in least_families_kept(many)]


def some_apart(many, family):
    return any(plain.compared(many, family, x, y)[0] == "apart" for x, y in combinations(range(many), 2))


def with_more_sets(many, family, chance):
    """The family with sets put to it that hold one of its sets, so that it says the same."""
    above = [s for s in plain.ground(many) if s not in family and plain.says(family, s)]
    return sorted(family + chance.sample(above, chance.randint(0, len(above))))


def names_of_two(sets):
    """The names of any two of the sets, each as often as it is there."""
    return {tuple(sorted(list(plain.names(a)) + list(plain.names(b)))) for a in sets for b in sets}


class TestWeightOf(unittest.TestCase):
    """[23]"""

    def test_plain_ones(self):
        self.assertEqual(weight_of([5, 3, 1], 5), 6)
        self.assertEqual(weight_of([5, 3, 1], 7), 9)
        self.assertEqual(weight_of([5, 3, 1], 2), 3)
        self.assertEqual(weight_of([0, 0, 4], 3), 0)

    def test_the_set_without_names_weighs_nothing(self):
        for weights in ([], [0], [7], [5, 3, 1], GREAT):
            self.assertEqual(weight_of(weights, 0), 0)

    def test_weights_of_forty_figures_and_more(self):
        self.assertEqual(weight_of(GREAT, 3), 2 * 10 ** 40 - 1)
        self.assertEqual(weight_of(GREAT, 255), sum(GREAT))
        self.assertEqual(weight_of([10 ** 69 + 1, 10 ** 69 + 2], 3), 2 * 10 ** 69 + 3)

    def test_held_against_a_plain_walk(self):
        for many in range(9):
            for weights, bar in plain.drawn_votes(many, 60, many + 1600):
                for one in plain.ground(many):
                    told = weight_of(weights, one)
                    self.assertEqual(told, plain.weight_of(weights, one), (weights, one))
                    self.assertIs(type(told), int)


class TestVoted(unittest.TestCase):
    """[23]"""

    def test_plain_ones(self):
        self.assertEqual(voted([1, 1, 1], 2), [3, 5, 6])
        self.assertEqual(voted([2, 1, 1], 2), [1, 6])
        self.assertEqual(voted([3, 2, 1], 4), [3, 5])
        self.assertEqual(voted([0, 1, 1], 1), [2, 4])
        self.assertEqual(voted([1, 2, 3, 4], 5), [6, 9, 10, 12])

    def test_no_weights(self):
        self.assertEqual(voted([], 0), [0])
        self.assertEqual(voted([], -1), [0])
        self.assertEqual(voted([], -10 ** 40), [0])
        self.assertEqual(voted([], 1), [])
        self.assertEqual(voted([], 10 ** 40), [])

    def test_a_bar_of_0_or_below_is_reached_by_all(self):
        for weights in ([], [0], [0, 0], [3, 0, 2], [1] * 8, GREAT):
            for bar in (0, -1, -5, -10 ** 60):
                self.assertEqual(voted(weights, bar), [0], (weights, bar))

    def test_a_bar_about_the_sum(self):
        for weights in ([4], [3, 2], [3, 2, 1], [1] * 8, [5, 4, 3, 2, 1, 1, 1, 9], GREAT):
            all_with_weight = sum(2 ** k for k, weight in enumerate(weights) if weight > 0)
            self.assertEqual(voted(weights, sum(weights)), [all_with_weight], weights)
            self.assertEqual(voted(weights, sum(weights) + 1), [], weights)
            self.assertEqual(voted(weights, 10 ** 69), [], weights)
            self.assertEqual(voted(weights, sum(weights) - 1), plain.voted(weights, sum(weights) - 1), weights)

    def test_noughts_alone(self):
        for many in range(9):
            self.assertEqual(voted([0] * many, 0), [0])
            self.assertEqual(voted([0] * many, 1), [])

    def test_weights_alike(self):
        for many in range(9):
            for bar in range(many + 2):
                self.assertEqual(voted([1] * many, bar), plain.of_size(many, bar), (many, bar))
                self.assertEqual(voted([10 ** 40] * many, bar * 10 ** 40), plain.of_size(many, bar), (many, bar))
        self.assertEqual(len(voted([1] * 8, 4)), 70)

    def test_every_small_vote(self):
        for many in range(4):
            for weights in product(range(4), repeat=many):
                for bar in range(-2, sum(weights) + 3):
                    self.assertEqual(voted(list(weights), bar), plain.voted(weights, bar), (weights, bar))

    def test_held_against_a_plain_walk(self):
        for many in range(9):
            for weights, bar in plain.drawn_votes(many, 120, many + 1700):
                told = voted(weights, bar)
                self.assertEqual(told, plain.voted(weights, bar), (weights, bar))
                self.assertTrue(is_family(many, told), (weights, bar))

    def test_it_says_yes_of_just_the_sets_of_that_weight(self):
        for many in range(9):
            for weights, bar in plain.drawn_votes(many, 40, many + 1800):
                told = voted(weights, bar)
                for one in plain.ground(many):
                    self.assertIs(says(told, one), plain.weight_of(weights, one) >= bar, (weights, bar, one))

    def test_nothing_is_changed_and_what_is_told_is_the_askers_own(self):
        for weights in ([], [0], [1, 1, 1], [3, 2, 1], [5, 0, 2, 2]):
            for bar in (-1, 0, 2, 4, 99):
                handed_in = list(weights)
                weight_of(handed_in, 2 ** len(weights) - 1)
                told = voted(handed_in, bar)
                self.assertEqual(handed_in, weights)
                kept = list(told)
                told.append(77)
                told.reverse()
                again = voted(handed_in, bar)
                self.assertEqual(again, kept)
                handed_in.append(1)
                handed_in.reverse()
                self.assertEqual(again, kept)


class TestByWeights(unittest.TestCase):
    """[24]"""

    def hold(self, many, family):
        told = by_weights(many, family)
        self.assertIs(type(told), tuple)
        self.assertTrue(plain.bears_out(many, family, told), (many, family, told))
        return told

    def test_plain_ones(self):
        self.assertEqual(self.hold(3, [3, 5, 6])[0], "weights")
        self.assertEqual(self.hold(3, [3, 6])[0], "weights")
        self.assertEqual(self.hold(4, [3, 12])[0], "trade")
        self.assertEqual(self.hold(5, [3, 12, 16])[0], "trade")
        self.assertEqual(self.hold(5, plain.of_size(5, 3))[0], "weights")

    def test_the_trade_that_is_the_only_one_of_two_sets(self):
        word, yes, no = self.hold(4, [3, 12])
        self.assertEqual(sorted(yes), [3, 12])
        self.assertIn(sorted(no), [[5, 10], [6, 9]])

    def test_the_sets_of_a_trade_are_told_rising(self):
        for family in least_families(4) + least_families(5)[::7]:
            told = by_weights(5, family)
            if told[0] == "trade":
                self.assertEqual([sorted(told[1]), sorted(told[2])], [told[1], told[2]], family)

    def test_the_ground_of_no_names(self):
        for family in ([], [0]):
            self.assertEqual(self.hold(0, family)[:2], ("weights", []))

    def test_the_family_without_sets_and_one_with_the_set_0(self):
        for many in range(6):
            for family in ([], [0], sorted({0, 2 ** many - 1}), list(plain.ground(many))):
                self.assertEqual(self.hold(many, family)[0], "weights")

    def test_names_that_no_set_has(self):
        for many in range(1, 6):
            for k in range(many):
                self.assertEqual(self.hold(many, [2 ** k])[0], "weights")

    def test_all_that_are_their_own_least_sets_of_up_to_four_names(self):
        for many in range(5):
            for family in least_families(many):
                told = self.hold(many, family)
                self.assertEqual(told[0], "trade" if some_apart(many, family) else "weights", (many, family))

    def test_all_that_are_their_own_least_sets_of_five_names(self):
        words = [self.hold(5, family)[0] for family in least_families(5)]
        self.assertEqual((len(words), words.count("weights")), (7581, 3287))

    def test_where_two_of_five_names_are_apart_a_trade_is_told_else_weights(self):
        for family in least_families(5)[::5]:
            word = by_weights(5, family)[0]
            self.assertEqual(word, "trade" if some_apart(5, family) else "weights", family)

    def test_never_both(self):
        votes = {tuple(plain.table_of(4, voted(list(weights), bar)))
                 for weights in product(range(4), repeat=4) for bar in range(sum(weights) + 2)}
        for family in least_families(4):
            table = plain.table_of(4, family)
            told = by_weights(4, family)[0]
            self.assertEqual(told, "weights" if tuple(table) in votes else "trade", family)
            yes = [s for s in plain.ground(4) if table[s]]
            no = [s for s in plain.ground(4) if not table[s]]
            # Of four names a trade of two sets is there wherever there is one at all.
            self.assertIs(bool(names_of_two(yes) & names_of_two(no)), told == "trade", family)

    def test_every_family_of_up_to_three_names(self):
        for many in range(4):
            for family in plain.all_families(many):
                self.assertEqual(self.hold(many, family)[0], "weights")

    def test_families_that_are_not_their_own_least_sets(self):
        chance = Random(1900)
        for many, step in ((4, 1), (5, 20)):
            for family in least_families(many)[::step]:
                self.hold(many, with_more_sets(many, family, chance))
            for family in plain.some_families(many, 100, many + 1900):
                self.hold(many, family)

    def test_of_the_family_of_drawn_weights_and_a_bar_never_a_trade(self):
        for many in range(6):
            for weights, bar in plain.drawn_votes(many, 150, many + 2000):
                family = voted(weights, bar)
                self.assertEqual(self.hold(many, family)[0], "weights", (weights, bar))

    def test_told_weights_tell_the_family_again(self):
        for many, step in ((3, 1), (4, 1), (5, 40)):
            for family in least_families(many)[::step]:
                told = by_weights(many, family)
                if told[0] == "weights":
                    self.assertEqual(voted(told[1], told[2]), family)

    def test_asked_twice_the_same_weights(self):
        chance = Random(2100)
        for many, step in ((2, 1), (3, 1), (4, 1), (5, 30)):
            for family in least_families(many)[::step]:
                told = by_weights(many, family)
                self.assertEqual(by_weights(many, list(family)), told, (many, family))
                # A family is one with its least sets, as they say the same.
                self.assertEqual(by_weights(many, with_more_sets(many, family, chance)), told, (many, family))

    def test_others_asked_in_between_change_nothing(self):
        some = least_families(5)[::50]
        told = [by_weights(5, family) for family in some]
        self.assertEqual([by_weights(5, family) for family in reversed(some)], told[::-1])

    def test_the_hits_go_by_weights_where_the_family_does(self):
        for many, step in ((0, 1), (1, 1), (2, 1), (3, 1), (4, 1), (5, 30)):
            for family in least_families(many)[::step]:
                told, of_hits = by_weights(many, family), self.hold(many, hits(many, family))
                self.assertEqual(of_hits[0], told[0], (many, family))

    def test_exchanged_names_tell_the_same_word(self):
        chance = Random(2200)
        for many, step in ((4, 1), (5, 30)):
            for family in least_families(many)[::step]:
                moved = exchanged(chance.sample(range(many), many), family)
                self.assertEqual(self.hold(many, moved)[0], by_weights(many, family)[0], (many, family))

    def test_of_more_than_five_names_it_is_refused(self):
        for many in (6, 7, 8):
            whole = 2 ** many - 1
            for family in ([], [0], [1], [whole], [3, 12], [3, 5, 6], plain.of_size(many, many // 2)):
                kept = list(family)
                with self.assertRaises(TooMany):
                    by_weights(many, family)
                with self.assertRaises(HitError):
                    by_weights(many, family)
                self.assertEqual(family, kept)

    def test_nothing_is_changed_and_what_is_told_is_the_askers_own(self):
        for family in ([], [0], [3, 6], [1, 3, 7], [3, 12], [3, 5, 6], [5, 10, 16]):
            handed_in = list(family)
            word, first, second = by_weights(5, handed_in)
            self.assertEqual(handed_in, family)
            kept = (word, list(first), list(second) if word == "trade" else second)
            first.append(77)
            first.reverse()
            if word == "trade":
                second.clear()
            self.assertEqual(handed_in, family)
            again = by_weights(5, handed_in)
            self.assertEqual(again, kept)
            handed_in.append(31)
            handed_in.reverse()
            self.assertEqual(again, kept)
            self.assertEqual(by_weights(5, least(family)), kept)


if __name__ == "__main__":
    unittest.main()
