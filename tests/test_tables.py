import unittest

from allhits.families import is_family
from allhits.tables import falls, noes, noes_by, table_of, table_of_noes, yeses, yeses_by
from tests import plain


class TestFalls(unittest.TestCase):
    def test_plain_ones(self):
        self.assertIsNone(falls(2, [False, True, True, True]))
        self.assertIsNone(falls(2, [False, False, False, True]))
        self.assertEqual(falls(2, [False, True, True, False]), (1, 1))
        self.assertEqual(falls(2, [False, False, True, False]), (2, 0))
        self.assertEqual(falls(2, [True, True, False, True]), (0, 1))
        self.assertEqual(falls(2, [True, False, False, True]), (0, 0))

    def test_the_ground_of_no_names_has_two_tables_and_both_rise(self):
        self.assertIsNone(falls(0, [False]))
        self.assertIsNone(falls(0, [True]))

    def test_a_table_of_nothing_but_yes_or_nothing_but_no_rises(self):
        for many in range(9):
            self.assertIsNone(falls(many, [True] * 2 ** many))
            self.assertIsNone(falls(many, [False] * 2 ** many))

    def test_a_single_yes_and_a_single_no(self):
        for many in range(1, 9):
            whole = 2 ** many - 1
            for s in plain.ground(many):
                single_yes = [t == s for t in plain.ground(many)]
                single_no = [t != s for t in plain.ground(many)]
                self.assertEqual(falls(many, single_yes), plain.falls(many, single_yes), (many, s))
                self.assertEqual(falls(many, single_no), plain.falls(many, single_no), (many, s))
                self.assertIs(falls(many, single_yes) is None, s == whole)
                self.assertIs(falls(many, single_no) is None, s == 0)

    def test_a_fall_that_only_steps_find(self):
        # Yes of 1, no of 7, yes of what lies between in one way: the place is where the step to no is.
        self.assertEqual(falls(3, [False, True, False, True, False, True, False, False]), (3, 2))

    def test_held_against_a_plain_walk(self):
        for many in range(9):
            for table in plain.tables(many):
                self.assertEqual(falls(many, table), plain.falls(many, table), (many, table))

    def test_kinds(self):
        told = falls(2, [True, True, False, True])
        self.assertIs(type(told), tuple)
        self.assertEqual([type(part) for part in told], [int, int])


class TestYesesAndNoes(unittest.TestCase):
    def test_plain_ones(self):
        self.assertEqual(yeses(2, [False, True, True, True]), [1, 2])
        self.assertEqual(noes(2, [False, True, True, True]), [0])
        self.assertEqual(yeses(2, [False, False, False, True]), [3])
        self.assertEqual(noes(2, [False, False, False, True]), [1, 2])
        self.assertEqual(yeses(2, [False, True, False, True]), [1])
        self.assertEqual(noes(2, [False, True, False, True]), [2])

    def test_the_table_of_no_yes_and_the_one_of_no_no(self):
        for many in range(9):
            self.assertEqual(yeses(many, [False] * 2 ** many), [])
            self.assertEqual(noes(many, [False] * 2 ** many), [2 ** many - 1])
            self.assertEqual(yeses(many, [True] * 2 ** many), [0])
            self.assertEqual(noes(many, [True] * 2 ** many), [])

    def test_seventy_of_each(self):
        table = [len(plain.names(s)) >= 4 for s in range(256)]
        self.assertEqual(yeses(8, table), plain.of_size(8, 4))
        self.assertEqual(noes(8, table), plain.of_size(8, 3))
        table = [len(plain.names(s)) >= 5 for s in range(256)]
        self.assertEqual(noes(8, table), plain.of_size(8, 4))

    def test_held_against_a_plain_walk(self):
        for many in range(9):
            for table in plain.tables_that_rise(many):
                self.assertEqual(yeses(many, table), plain.yeses(many, table), (many, table))
                self.assertEqual(noes(many, table), plain.noes(many, table), (many, table))

    def test_what_is_told_is_a_family(self):
        for many in range(9):
            for table in plain.tables_that_rise(many):
                self.assertTrue(is_family(many, yeses(many, table)), (many, table))
                self.assertTrue(is_family(many, noes(many, table)), (many, table))


class TestTablesOfFamilies(unittest.TestCase):
    def test_plain_ones(self):
        self.assertEqual(table_of(2, [1]), [False, True, False, True])
        self.assertEqual(table_of(2, [1, 2]), [False, True, True, True])
        self.assertEqual(table_of_noes(2, [1]), [False, False, True, True])
        self.assertEqual(table_of_noes(2, [1, 2]), [False, False, False, True])

    def test_the_families_without_sets_and_with_the_set_0(self):
        for many in range(9):
            size = 2 ** many
            self.assertEqual(table_of(many, []), [False] * size)
            self.assertEqual(table_of(many, [0]), [True] * size)
            self.assertEqual(table_of_noes(many, []), [True] * size)
            self.assertEqual(table_of_noes(many, [0]), [False] + [True] * (size - 1))
            self.assertEqual(table_of_noes(many, [size - 1]), [False] * size)

    def test_held_against_a_plain_walk(self):
        for many in range(9):
            for family in plain.families(many):
                self.assertEqual(table_of(many, family), plain.table_of(many, family), (many, family))
                self.assertEqual(table_of_noes(many, family), plain.table_of_noes(many, family), (many, family))

    def test_kinds(self):
        for many in range(9):
            for family in plain.edge_families(many):
                for table in (table_of(many, family), table_of_noes(many, family)):
                    self.assertIs(type(table), list)
                    self.assertEqual(len(table), 2 ** many)
                    self.assertTrue(all(truth is True or truth is False for truth in table), (many, family))

    def test_both_rise(self):
        for many in range(7):
            for family in plain.families(many):
                self.assertIsNone(falls(many, table_of(many, family)), (many, family))
                self.assertIsNone(falls(many, table_of_noes(many, family)), (many, family))


class TestEachFromTheOther(unittest.TestCase):
    """[16], and [3] as far as it speaks of functions that only rise."""

    def test_plain_ones(self):
        self.assertEqual(noes_by(3, [3, 6]), [2, 5])
        self.assertEqual(yeses_by(3, [2, 5]), [3, 6])
        self.assertEqual(noes_by(3, [1]), [6])
        self.assertEqual(yeses_by(3, [6]), [1])
        self.assertEqual(noes_by(4, [3, 12]), [5, 6, 9, 10])

    def test_the_families_without_sets_and_with_the_set_0(self):
        for many in range(9):
            whole = 2 ** many - 1
            self.assertEqual(noes_by(many, []), [whole])
            self.assertEqual(noes_by(many, [0]), [])
            self.assertEqual(yeses_by(many, []), [0])
            self.assertEqual(yeses_by(many, [whole]), [])
            self.assertEqual(yeses_by(many, [0]), [2 ** k for k in range(many)])

    def test_seventy_of_each(self):
        self.assertEqual(noes_by(8, plain.of_size(8, 4)), plain.of_size(8, 3))
        self.assertEqual(yeses_by(8, plain.of_size(8, 4)), plain.of_size(8, 5))
        self.assertEqual(noes_by(8, plain.of_size(8, 5)), plain.of_size(8, 4))

    def test_by_the_hits_and_the_rests(self):
        for many in range(9):
            for family in plain.families(many):
                by_hits = plain.rests(many, plain.hits(many, family))
                self.assertEqual(noes_by(many, family), by_hits, (many, family))
                by_rests = plain.hits(many, plain.rests(many, family))
                self.assertEqual(yeses_by(many, family), by_rests, (many, family))

    def test_by_the_tables(self):
        for many in range(9):
            for family in plain.edge_families(many) + list(plain.families(many))[-60:]:
                self.assertEqual(noes_by(many, family), plain.noes(many, plain.table_of(many, family)), (many, family))
                table = plain.table_of_noes(many, family)
                self.assertEqual(yeses_by(many, family), plain.yeses(many, table), (many, family))

    def test_a_table_that_rises_is_told_by_either(self):
        for many in range(9):
            for table in plain.tables_that_rise(many):
                told_yeses, told_noes = yeses(many, table), noes(many, table)
                self.assertEqual(table_of(many, told_yeses), table, many)
                self.assertEqual(table_of_noes(many, told_noes), table, many)
                self.assertEqual(noes_by(many, told_yeses), told_noes, (many, table))
                self.assertEqual(yeses_by(many, told_noes), told_yeses, (many, table))

    def test_what_is_told_is_a_family(self):
        for many in range(9):
            for family in plain.families(many):
                self.assertTrue(is_family(many, noes_by(many, family)), (many, family))
                self.assertTrue(is_family(many, yeses_by(many, family)), (many, family))


class TestTheAskersOwn(unittest.TestCase):
    def hold(self, tell, many, handed_in):
        kept = list(handed_in)
        told = tell(many, handed_in)
        self.assertEqual(handed_in, kept)
        kept_told = list(told)
        told.append(77)
        told.reverse()
        self.assertEqual(handed_in, kept)
        told_again = tell(many, handed_in)
        self.assertEqual(told_again, kept_told)
        handed_in.reverse()
        handed_in.append(1)
        self.assertEqual(told_again, kept_told)
        self.assertEqual(tell(many, kept), kept_told)

    def test_of_families(self):
        for tell in (table_of, table_of_noes, noes_by, yeses_by):
            for many in range(9):
                for family in plain.edge_families(many):
                    self.hold(tell, many, list(family))

    def test_of_tables(self):
        for tell in (yeses, noes):
            for many in range(9):
                for table in plain.tables_that_rise(many)[:20]:
                    self.hold(tell, many, list(table))

    def test_falls_changes_nothing(self):
        for many in range(9):
            for table in plain.tables(many)[-40:]:
                kept = list(table)
                falls(many, table)
                self.assertEqual(table, kept)


if __name__ == "__main__":
    unittest.main()
