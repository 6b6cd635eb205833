import unittest
from itertools import permutations
from random import Random

from allhits.duals import held
from allhits.families import greatest, is_family, least, rests, says
from allhits.hits import hits, looked
from allhits.papers import written
from allhits.parts import always_in, always_out, both, either, exchanged, exchanged_set
from allhits.tables import noes_by, yeses_by
from tests import plain


def orders(many):
    """Every order of few names, drawn ones of more; the one that changes nothing and the backward one always."""
    if many <= 4:
        return [list(order) for order in permutations(range(many))]
    chance = Random(many + 1100)
    told = [list(range(many)), list(range(many))[::-1], list(range(1, many)) + [0]]
    told.extend(chance.sample(range(many), many) for turn in range(9))
    return told


class TestAlways(unittest.TestCase):
    """[17]"""

    def test_in(self):
        self.assertEqual(always_in([3, 6], 1), [1, 4])
        self.assertEqual(always_in([3, 6], 0), [2])
        self.assertEqual(always_in([1, 6], 0), [0])
        self.assertEqual(always_in([3, 5, 6], 2), [1, 2])
        self.assertEqual(always_in([3, 7, 12], 3), [3, 4])

    def test_out(self):
        self.assertEqual(always_out([3, 6], 1), [])
        self.assertEqual(always_out([3, 6], 0), [6])
        self.assertEqual(always_out([1, 6], 2), [1])
        self.assertEqual(always_out([2, 3, 7, 12], 0), [2, 12])
        self.assertEqual(always_out([3, 7, 12], 3), [3])

    def test_the_families_without_sets_and_with_the_set_0(self):
        for k in range(8):
            self.assertEqual(always_in([], k), [])
            self.assertEqual(always_out([], k), [])
            self.assertEqual(always_in([0], k), [0])
            self.assertEqual(always_out([0], k), [0])
            self.assertEqual(always_in([0, 255], k), [0])
            self.assertEqual(always_out([0, 255], k), [0])
            self.assertEqual(always_in([2 ** k], k), [0])
            self.assertEqual(always_out([2 ** k], k), [])

    def test_a_name_that_no_set_has(self):
        for family in ([3, 5, 6], [1, 3, 12], [7], [0, 9]):
            for k in range(4, 8):
                self.assertEqual(always_in(family, k), plain.least(family), (family, k))
                self.assertEqual(always_out(family, k), plain.least(family), (family, k))

    def test_families_of_seventy_sets(self):
        fours = plain.of_size(8, 4)
        for k in range(8):
            self.assertEqual(always_in(fours, k), [s for s in plain.of_size(8, 3) if k not in plain.names(s)])
            self.assertEqual(always_out(fours, k), [s for s in fours if k not in plain.names(s)])

    def test_held_against_a_plain_walk(self):
        for many in range(9):
            for family in plain.families(many):
                for k in range(8):
                    self.assertEqual(always_in(family, k), plain.always_in(family, k), (family, k))
                    self.assertEqual(always_out(family, k), plain.always_out(family, k), (family, k))

    def test_what_they_say(self):
        for many in range(1, 9):
            for family in plain.edge_families(many) + list(plain.families(many))[-40:]:
                said = plain.table_of(many, family)
                for k in range(many):
                    told_in, told_out = always_in(family, k), always_out(family, k)
                    for one in plain.ground(many):
                        with_k = plain.number(plain.names(one) | {k})
                        without_k = plain.number(plain.names(one) - {k})
                        self.assertIs(says(told_in, one), said[with_k], (family, k, one))
                        self.assertIs(says(told_out, one), said[without_k], (family, k, one))

    def test_the_hits_of_the_one_are_the_hits_with_the_other(self):
        for many in range(1, 9):
            for family in plain.edge_families(many) + list(plain.families(many))[-100:]:
                met = hits(many, family)
                for k in range(many):
                    self.assertEqual(hits(many, always_in(family, k)), always_out(met, k), (many, family, k))
                    self.assertEqual(hits(many, always_out(family, k)), always_in(met, k), (many, family, k))

    def test_what_is_told_is_a_family_of_the_same_ground(self):
        for many in range(9):
            for family in plain.families(many):
                for k in range(many):
                    self.assertTrue(is_family(many, always_in(family, k)), (family, k))
                    self.assertTrue(is_family(many, always_out(family, k)), (family, k))


class TestJoined(unittest.TestCase):
    """[18]"""

    def test_either(self):
        self.assertEqual(either([3], [1, 4]), [1, 4])
        self.assertEqual(either([3, 12], [6, 7]), [3, 6, 12])
        self.assertEqual(either([1, 2], [1, 2]), [1, 2])
        self.assertEqual(either([1, 3], [5]), [1])

    def test_both(self):
        self.assertEqual(both([1, 2], [4]), [5, 6])
        self.assertEqual(both([1, 2], [1, 2]), [1, 2])
        self.assertEqual(both([3, 12], [6]), [7, 14])
        self.assertEqual(both([1, 6], [2, 5]), [3, 5, 6])

    def test_the_families_without_sets_and_with_the_set_0(self):
        for family in ([], [0], [1, 2], [3, 5, 6], [1, 3, 7], plain.of_size(8, 4), list(range(70))):
            own = plain.least(family)
            self.assertEqual(either(family, []), own)
            self.assertEqual(either([], family), own)
            self.assertEqual(either(family, [0]), [0])
            self.assertEqual(either([0], family), [0])
            self.assertEqual(both(family, []), [])
            self.assertEqual(both([], family), [])
            self.assertEqual(both(family, [0]), own)
            self.assertEqual(both([0], family), own)

    def test_families_of_seventy_sets_joined(self):
        fours, fives = plain.of_size(8, 4), plain.of_size(8, 5)
        some = [fours, fives, list(range(186, 256)), list(range(100, 170)), list(range(1, 71)), list(range(3, 213, 3))]
        for one in some:
            for other in some:
                self.assertEqual(either(list(one), list(other)), plain.either(one, other), (one, other))
                self.assertEqual(both(list(one), list(other)), plain.both(one, other), (one, other))
        self.assertEqual(both(fours, fours), fours)
        self.assertEqual(both(fours, fives), fives)
        self.assertEqual(either(fours, fives), fours)

    def test_seventy_are_told(self):
        fours = plain.of_size(8, 4)
        with_0 = [s for s in fours if 0 in plain.names(s)]
        without_0 = [s for s in fours if 0 not in plain.names(s)]
        self.assertEqual(either(with_0, without_0), fours)
        self.assertEqual(len(either(with_0, without_0)), 70)
        self.assertEqual(both(plain.of_size(8, 2), fours), fours)

    def test_held_against_a_plain_walk(self):
        for many in range(9):
            for one, other in plain.pairs(many)[::2]:
                self.assertEqual(either(one, other), plain.either(one, other), (one, other))
                self.assertEqual(both(one, other), plain.both(one, other), (one, other))

    def test_what_they_say(self):
        for many in range(9):
            for one, other in plain.pairs(many)[::25]:
                table, other_table = plain.table_of(many, one), plain.table_of(many, other)
                told_either, told_both = either(one, other), both(one, other)
                for s in plain.ground(many):
                    self.assertIs(says(told_either, s), table[s] or other_table[s], (one, other, s))
                    self.assertIs(says(told_both, s), table[s] and other_table[s], (one, other, s))

    def test_the_hits_of_the_one_are_the_hits_joined_by_the_other(self):
        for many in range(9):
            for one, other in plain.pairs(many)[::7]:
                met, other_met = hits(many, one), hits(many, other)
                self.assertEqual(hits(many, either(one, other)), both(met, other_met), (many, one, other))
                self.assertEqual(hits(many, both(one, other)), either(met, other_met), (many, one, other))

    def test_what_is_told_is_a_family(self):
        for many in range(9):
            for one, other in plain.pairs(many)[::3]:
                self.assertTrue(is_family(many, either(one, other)), (one, other))
                self.assertTrue(is_family(many, both(one, other)), (one, other))


class TestExchanged(unittest.TestCase):
    """[19]"""

    def test_plain_ones(self):
        self.assertEqual(exchanged_set([1, 2, 0], 1), 2)
        self.assertEqual(exchanged_set([1, 2, 0], 3), 6)
        self.assertEqual(exchanged_set([1, 2, 0], 5), 3)
        self.assertEqual(exchanged_set([7, 6, 5, 4, 3, 2, 1, 0], 3), 192)
        self.assertEqual(exchanged([1, 2, 0], [3, 4]), [1, 6])
        self.assertEqual(exchanged([2, 0, 1], [3, 4]), [2, 5])

    def test_edges(self):
        self.assertEqual(exchanged_set([], 0), 0)
        self.assertEqual(exchanged([], []), [])
        self.assertEqual(exchanged([], [0]), [0])
        for many in range(9):
            for order in orders(many):
                whole = 2 ** many - 1
                self.assertEqual(exchanged_set(order, 0), 0)
                self.assertEqual(exchanged_set(order, whole), whole)
                self.assertEqual(exchanged(order, []), [])
                self.assertEqual(exchanged(order, plain.of_size(many, many // 2)), plain.of_size(many, many // 2))

    def test_each_set_by_each_order(self):
        for many in range(9):
            for order in orders(many):
                for one in plain.ground(many):
                    self.assertEqual(exchanged_set(order, one), plain.exchanged_set(order, one), (order, one))

    def test_families(self):
        for many in range(9):
            for order in orders(many):
                for family in plain.edge_families(many) + list(plain.families(many))[-40:]:
                    told = exchanged(order, family)
                    self.assertEqual(told, plain.exchanged(order, family), (order, family))
                    self.assertTrue(is_family(many, told), (order, family))

    def test_the_sets_keep_what_they_hold(self):
        self.assertEqual(exchanged([2, 1, 0], [1, 3, 7]), [4, 6, 7])

    def test_exchanged_back(self):
        for many in range(9):
            for order in orders(many):
                back = [order.index(k) for k in range(many)]
                for family in plain.edge_families(many):
                    self.assertEqual(exchanged(back, exchanged(order, family)), family, (order, family))

    def test_what_is_told_of_a_family_goes_with_it(self):
        for many in range(9):
            for order in orders(many)[-4:]:
                for family in plain.edge_families(many) + list(plain.some_families(many, 20, many + 1200)):
                    told = exchanged(order, family)
                    for tell in (hits, rests, noes_by, yeses_by):
                        self.assertEqual(tell(many, told), exchanged(order, tell(many, family)), (order, family))
                    for tell in (least, greatest):
                        self.assertEqual(tell(told), exchanged(order, tell(family)), (order, family))
                    for k in range(many):
                        for tell in (always_in, always_out):
                            self.assertEqual(tell(told, order[k]), exchanged(order, tell(family, k)), (order, family))

    def test_what_is_told_of_a_set_goes_with_it(self):
        for many in range(9):
            for order in orders(many)[-3:]:
                for family in plain.edge_families(many):
                    told = exchanged(order, family)
                    for one in plain.ground(many):
                        moved = exchanged_set(order, one)
                        self.assertIs(says(told, moved), says(family, one), (order, family, one))
                        self.assertEqual(looked(told, moved)[0], looked(family, one)[0], (order, family, one))

    def test_what_is_told_of_two_families_goes_with_them(self):
        for many in range(9):
            for order in orders(many)[-3:]:
                for one, other in plain.pairs(many)[::20]:
                    moved, other_moved = exchanged(order, one), exchanged(order, other)
                    self.assertEqual(held(many, moved, other_moved)[0], held(many, one, other)[0], (one, other))
                    self.assertIs(written(many, moved, other_moved) is None, written(many, one, other) is None)
                    for tell in (either, both):
                        self.assertEqual(tell(moved, other_moved), exchanged(order, tell(one, other)), (one, other))


class TestTheAskersOwn(unittest.TestCase):
    def hold(self, tell, handed_in):
        kept = [list(thing) if isinstance(thing, list) else thing for thing in handed_in]
        told = tell(*handed_in)
        self.assertEqual(handed_in, kept)
        kept_told = list(told)
        told.append(77)
        told.reverse()
        self.assertEqual(handed_in, kept)
        told_again = tell(*handed_in)
        self.assertEqual(told_again, kept_told)
        for thing in handed_in:
            if isinstance(thing, list):
                thing.append(0)
                thing.reverse()
        self.assertEqual(told_again, kept_told)
        self.assertEqual(tell(*kept), kept_told)

    def test_always_in_and_out(self):
        for tell in (always_in, always_out):
            for family in ([], [0], [3, 6], [1, 3, 7], [8, 20], plain.of_size(8, 4)):
                for k in range(8):
                    self.hold(tell, [list(family), k])

    def test_joined(self):
        for tell in (either, both):
            for one in ([], [0], [3, 6], [1, 3, 7], plain.of_size(8, 4)):
                for other in ([], [0], [3, 6], [8, 20]):
                    self.hold(tell, [list(one), list(other)])

    def test_a_family_joined_with_itself(self):
        family = [1, 3, 7]
        for tell in (either, both):
            told = tell(family, family)
            told.append(77)
            self.assertEqual(family, [1, 3, 7])
            self.assertEqual(tell(family, family), [1])

    def test_exchanged(self):
        for order in ([0, 1, 2], [2, 1, 0], [1, 2, 0]):
            for family in ([], [0], [3, 6], [1, 3, 7]):
                self.hold(exchanged, [list(order), list(family)])
            kept = list(order)
            exchanged_set(order, 5)
            self.assertEqual(order, kept)


if __name__ == "__main__":
    unittest.main()
