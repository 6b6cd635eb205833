import unittest

from allhits.duals import held
from allhits.families import least
from allhits.hits import hits
from tests import plain


class TestHeld(unittest.TestCase):
    def test_each(self):
        self.assertEqual(held(3, [3, 6], [2, 5]), ("each",))
        self.assertEqual(held(3, [3, 5, 6], [3, 5, 6]), ("each",))
        self.assertEqual(held(4, [3, 12], [5, 6, 9, 10]), ("each",))

    def test_apart_tells_the_first_and_its_first(self):
        self.assertEqual(held(3, [3, 6], [1, 2, 5]), ("apart", 6, 1))
        self.assertEqual(held(4, [1, 2, 4], [9, 10, 12]), ("apart", 1, 10))
        self.assertEqual(held(4, [3, 5, 6], [7, 9, 10, 12]), ("apart", 3, 12))
        self.assertEqual(held(4, [4, 8, 15], [4, 12]), ("apart", 8, 4))

    def test_apart_comes_before_neither(self):
        self.assertEqual(plain.left_out(3, [1], [2]), [2, 6])
        self.assertEqual(held(3, [1], [2]), ("apart", 1, 2))

    def test_neither_tells_the_first(self):
        self.assertEqual(held(3, [3, 6], [2]), ("neither", 2))
        self.assertEqual(held(3, [3, 6], [5]), ("neither", 1))
        self.assertEqual(held(3, [3], [2, 5]), ("neither", 6))
        self.assertEqual(held(2, [3], [3]), ("neither", 1))

    def test_the_families_without_sets_and_with_the_set_0(self):
        for many in range(9):
            whole = 2 ** many - 1
            self.assertEqual(held(many, [], []), ("neither", 0))
            self.assertEqual(held(many, [], [0]), ("each",))
            self.assertEqual(held(many, [0], []), ("each",))
            self.assertEqual(held(many, [0], [0]), ("apart", 0, 0))
            self.assertEqual(held(many, [0], [whole]), ("apart", 0, whole))
            self.assertEqual(held(many, [whole], [0]), ("apart", whole, 0))
            self.assertEqual(held(many, sorted({0, whole}), []), ("each",))
            self.assertEqual(held(many, [], sorted({0, whole})), ("each",))

    def test_the_whole_ground_against_nothing(self):
        for many in range(1, 9):
            whole = 2 ** many - 1
            self.assertEqual(held(many, [whole], []), ("neither", 0))
            self.assertEqual(held(many, [], [whole]), ("neither", 1))
            self.assertEqual(held(many, [whole], [2 ** k for k in range(many)]), ("each",))

    def test_families_of_seventy_sets(self):
        fours, fives = plain.of_size(8, 4), plain.of_size(8, 5)
        self.assertEqual(held(8, fours, fives), ("each",))
        self.assertEqual(held(8, fives, fours), ("each",))
        self.assertEqual(held(8, fours, fours), ("apart", 15, 240))
        self.assertEqual(held(8, fours[1:], fives), ("neither", 15))
        self.assertEqual(held(8, fours, fives[1:]), ("neither", 224))
        self.assertEqual(held(8, list(range(186, 256)), [128]), plain.held(8, list(range(186, 256)), [128]))

    def test_families_that_are_not_their_own_least_sets(self):
        self.assertEqual(held(3, [3, 6, 7], [2, 5]), ("each",))
        self.assertEqual(held(3, [3, 6], [2, 5, 6]), ("each",))
        self.assertEqual(held(3, [3, 6, 7], [2, 3, 5, 7]), ("each",))
        self.assertEqual(held(3, [3, 7], [2, 7]), ("neither", 2))

    def test_held_against_a_plain_walk(self):
        for many in range(9):
            for one, other in plain.pairs(many):
                self.assertEqual(held(many, one, other), plain.held(many, one, other), (many, one, other))

    def test_the_pairs_of_the_walk_bring_every_answer(self):
        for many in range(9):
            words = {held(many, one, other)[0] for one, other in plain.pairs(many)}
            self.assertEqual(words, {"apart", "neither", "each"}, many)

    def test_somewhat_more_than_seventy_are_not_refused(self):
        family = list(range(170, 256))
        met = plain.hits(8, family)
        self.assertEqual(held(8, family, met), ("each",))
        self.assertEqual(held(8, met, family), ("each",))

    def test_kinds(self):
        for one, other in (([3], [4]), ([3], [3]), ([3, 6], [2, 5])):
            told = held(3, one, other)
            self.assertIs(type(told), tuple)
            self.assertIs(type(told[0]), str)
            self.assertTrue(all(type(part) is int for part in told[1:]), told)

    def test_nothing_is_changed(self):
        for many in range(9):
            for one, other in plain.pairs(many)[::7]:
                kept = (list(one), list(other))
                held(many, one, other)
                self.assertEqual((one, other), kept)

    def test_what_is_told_stays(self):
        one, other = [3, 6], [1, 2, 5]
        told = held(3, one, other)
        one.clear()
        other.append(7)
        self.assertEqual(told, ("apart", 6, 1))
        self.assertEqual(held(3, one, other), ("neither", 3))


class TestTheWhole(unittest.TestCase):
    """[10], and [3] as far as it speaks of two families."""

    def test_each_is_told_just_where_they_are_each_others(self):
        for many in range(9):
            for one, other in plain.pairs(many):
                told = held(many, one, other) == ("each",)
                self.assertIs(told, plain.hits(many, one) == plain.least(other), (many, one, other))
                self.assertIs(told, plain.hits(many, other) == plain.least(one), (many, one, other))

    def test_the_programs_own_hits_and_least_sets(self):
        for many in range(9):
            for family in plain.families(many):
                met = hits(many, family)
                self.assertEqual(held(many, family, met), ("each",), (many, family))
                self.assertEqual(held(many, met, least(family)), ("each",), (many, family))

    def test_what_is_told_bears_it_out(self):
        for many in range(9):
            for one, other in plain.pairs(many):
                told = held(many, one, other)
                if told[0] == "apart":
                    self.assertIn(told[1], one)
                    self.assertIn(told[2], other)
                    self.assertFalse(plain.names(told[1]) & plain.names(told[2]), told)
                if told[0] == "neither":
                    self.assertFalse(plain.says(one, told[1]), (many, one, other))
                    self.assertFalse(plain.says(other, plain.rest(many, told[1])), (many, one, other))


if __name__ == "__main__":
    unittest.main()
