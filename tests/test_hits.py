import unittest

from allhits.families import is_family, least
from allhits.hits import hits, looked
from tests import plain


class TestHits(unittest.TestCase):
    def test_plain_ones(self):
        self.assertEqual(hits(3, [3, 6]), [2, 5])
        self.assertEqual(hits(3, [1, 2, 4]), [7])
        self.assertEqual(hits(3, [7]), [1, 2, 4])
        self.assertEqual(hits(3, [3, 5, 6]), [3, 5, 6])
        self.assertEqual(hits(4, [3, 12]), [5, 6, 9, 10])

    def test_the_family_without_sets_is_met_by_each_set(self):
        for many in range(9):
            self.assertEqual(hits(many, []), [0])

    def test_none_meets_a_family_that_has_the_set_0(self):
        for many in range(9):
            self.assertEqual(hits(many, [0]), [])
            self.assertEqual(hits(many, list(range(2 ** many))[:70]), [])

    def test_the_whole_ground_is_met_by_each_name(self):
        for many in range(1, 9):
            self.assertEqual(hits(many, [2 ** many - 1]), [2 ** k for k in range(many)])

    def test_families_of_seventy_sets_and_seventy_hits(self):
        self.assertEqual(hits(8, plain.of_size(8, 4)), plain.of_size(8, 5))
        self.assertEqual(hits(8, plain.of_size(8, 5)), plain.of_size(8, 4))
        self.assertEqual(len(hits(8, plain.of_size(8, 5))), 70)

    def test_held_against_a_plain_walk(self):
        for many in range(9):
            for family in plain.families(many):
                self.assertEqual(hits(many, family), plain.hits(many, family), (many, family))

    def test_what_is_told_is_a_family(self):
        for many in range(9):
            for family in plain.families(many):
                self.assertTrue(is_family(many, hits(many, family)), (many, family))

    def test_a_family_and_its_least_sets_have_the_same_hits(self):
        for many in range(9):
            for family in plain.families(many):
                self.assertEqual(hits(many, least(family)), hits(many, family), (many, family))

    def test_nothing_is_changed_and_what_is_told_is_the_askers_own(self):
        for handed_in in ([], [0], [3, 6], [1, 2, 4], [3, 5, 6]):
            kept = list(handed_in)
            told = hits(3, handed_in)
            self.assertEqual(handed_in, kept)
            kept_told = list(told)
            told.append(77)
            self.assertEqual(handed_in, kept)
            self.assertEqual(hits(3, handed_in), kept_told)
            told_again = hits(3, handed_in)
            handed_in.append(7)
            self.assertEqual(told_again, kept_told)

    def test_somewhat_more_than_seventy_are_not_refused(self):
        family = list(range(176, 256))
        self.assertEqual(hits(8, family), plain.hits(8, family))


class TestTheWhole(unittest.TestCase):
    """[3], as far as it speaks of one family."""

    def test_each_meets_and_needs_each_of_its_names(self):
        for many in range(9):
            for family in plain.families(many):
                for one in hits(many, family):
                    self.hold_needed(family, one)

    def hold_needed(self, family, one):
        had = plain.names(one)
        common = [had & plain.names(other) for other in family]
        self.assertTrue(all(common), (family, one))
        for k in had:
            self.assertIn({k}, common, (family, one, k))

    def test_each_meeting_set_holds_one_of_them_and_no_other_set_does(self):
        for many in range(9):
            for family in plain.families(many):
                told = hits(many, family)
                for one in plain.ground(many):
                    meeting = plain.meets_all(family, plain.names(one))
                    self.assertIs(plain.says(told, one), meeting, (many, family, one))

    def test_the_hits_of_the_hits_are_the_least_sets(self):
        for many in range(9):
            for family in plain.families(many):
                self.assertEqual(hits(many, hits(many, family)), plain.least(family), (many, family))


class TestLooked(unittest.TestCase):
    def test_misses_tells_the_first(self):
        self.assertEqual(looked([3, 6, 12], 1), ("misses", 6))
        self.assertEqual(looked([1, 2, 4], 0), ("misses", 1))
        self.assertEqual(looked([0, 3], 3), ("misses", 0))

    def test_misses_comes_before_spare(self):
        self.assertEqual(looked([1, 8], 7), ("misses", 8))

    def test_spare_tells_the_first(self):
        self.assertEqual(looked([3, 6], 3), ("spare", 0))
        self.assertEqual(looked([3, 6], 6), ("spare", 2))
        self.assertEqual(looked([3, 6], 7), ("spare", 0))
        self.assertEqual(looked([1, 3], 7), ("spare", 1))
        self.assertEqual(looked([], 12), ("spare", 2))

    def test_least_tells_each_name_with_its_first_set(self):
        self.assertEqual(looked([3, 6], 5), ("least", [(0, 3), (2, 6)]))
        self.assertEqual(looked([3, 6], 2), ("least", [(1, 3)]))
        self.assertEqual(looked([3, 5, 6], 3), ("least", [(0, 5), (1, 6)]))
        self.assertEqual(looked([1, 3, 5, 9], 1), ("least", [(0, 1)]))

    def test_the_set_without_names(self):
        self.assertEqual(looked([], 0), ("least", []))
        self.assertEqual(looked([0], 0), ("misses", 0))

    def test_a_family_that_has_the_set_0_is_missed_by_all(self):
        for one in range(256):
            self.assertEqual(looked([0, 255], one), ("misses", 0))

    def test_families_of_seventy_sets(self):
        layer = plain.of_size(8, 4)
        self.assertEqual(looked(layer, 255), ("spare", 0))
        self.assertEqual(looked(layer, 15), ("misses", 240))
        self.assertEqual(looked(layer, 31), ("least", [(0, 225), (1, 226), (2, 228), (3, 232), (4, 240)]))

    def test_held_against_the_documents_words(self):
        for many in range(9):
            for family in plain.families(many):
                for one in plain.ground(many):
                    self.assertEqual(looked(family, one), plain.looked(family, one), (many, family, one))

    def test_hits_are_just_the_sets_of_which_the_last_is_told(self):
        for many in range(9):
            for family in plain.families(many):
                told = [one for one in plain.ground(many) if looked(family, one)[0] == "least"]
                self.assertEqual(told, hits(many, family), (many, family))

    def test_kinds(self):
        for family, one in (([3], 4), ([3], 3), ([3, 6], 5)):
            self.assertIsInstance(looked(family, one), tuple)
        own = looked([3, 6], 5)[1]
        self.assertIsInstance(own, list)
        for pair in own:
            self.assertIsInstance(pair, tuple)

    def test_nothing_is_changed_and_what_is_told_is_the_askers_own(self):
        handed_in = [3, 6]
        for one in range(8):
            looked(handed_in, one)
            self.assertEqual(handed_in, [3, 6])
        told = looked(handed_in, 5)
        told[1].append((7, 7))
        told[1].reverse()
        self.assertEqual(handed_in, [3, 6])
        told_again = looked(handed_in, 5)
        self.assertEqual(told_again, ("least", [(0, 3), (2, 6)]))
        handed_in.insert(0, 0)
        self.assertEqual(told_again, ("least", [(0, 3), (2, 6)]))
        empty = looked([], 0)
        empty[1].append((7, 7))
        self.assertEqual(looked([], 0), ("least", []))


if __name__ == "__main__":
    unittest.main()
