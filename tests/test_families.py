import unittest
from random import Random

from allhits.families import greatest, is_family, least, rests, says
from tests import plain


class TestIsFamily(unittest.TestCase):
    def test_families(self):
        for many in range(9):
            for family in plain.families(many):
                self.assertIs(is_family(many, family), True, (many, family))

    def test_the_ground_of_no_names_has_two_families(self):
        self.assertIs(is_family(0, []), True)
        self.assertIs(is_family(0, [0]), True)
        for thing in ([1], [0, 0], [0, 1], [-1], [-1, 0]):
            self.assertIs(is_family(0, thing), False, thing)

    def test_seventy_sets_and_no_more(self):
        for first in (0, 1, 100, 185, 186):
            thing = list(range(first, first + 70))
            self.assertIs(is_family(8, thing), True, first)
        for first in (0, 1, 100, 184, 185):
            thing = list(range(first, first + 71))
            self.assertIs(is_family(8, thing), False, first)
        self.assertIs(is_family(8, list(range(256))), False)
        self.assertIs(is_family(7, list(range(0, 128))), False)
        self.assertIs(is_family(7, list(range(58, 128))), True)
        self.assertIs(is_family(8, plain.of_size(8, 4)), True)
        self.assertIs(is_family(8, [0] + plain.of_size(8, 4)), False)

    def test_sets_beyond_the_ground(self):
        for many in range(9):
            whole = 2 ** many - 1
            self.assertIs(is_family(many, [whole]), True)
            self.assertIs(is_family(many, [whole + 1]), False)
            self.assertIs(is_family(many, [0, whole + 1]), False)
            self.assertIs(is_family(many, [-1, 0]), False)

    def test_a_set_twice(self):
        for many in range(9):
            for family in plain.edge_families(many):
                for place in range(min(len(family), 69)):
                    thing = family[:69][:place + 1] + family[:69][place:]
                    self.assertIs(is_family(many, thing), False, (many, thing))

    def test_not_rising(self):
        for many in range(1, 9):
            for family in plain.edge_families(many):
                for place in range(1, len(family)):
                    thing = list(family)
                    thing[place - 1], thing[place] = thing[place], thing[place - 1]
                    self.assertIs(is_family(many, thing), False, (many, thing))
                if len(family) > 1:
                    self.assertIs(is_family(many, family[::-1]), False, (many, family))

    def test_other_things_than_lists(self):
        things = plain.far_numbers() + [0, 1, 7, 255, "1 2", (), (0,), (1, 2), {}, {1: 2}, {1}, range(3), None,
                                        True, False, "", "none", 1.5, b"\x01", object(), list, iter([1])]
        for many in range(9):
            for thing in things:
                self.assertIs(is_family(many, thing), False, (many, thing))

    def test_a_tuple_in_the_place_of_a_list(self):
        for many in range(9):
            for family in plain.edge_families(many):
                self.assertIs(is_family(many, tuple(family)), False, (many, family))

    def test_wrong_things_at_any_place(self):
        for many in range(9):
            wrong_things = plain.no_numbers() + plain.far_numbers() + [2 ** many, 2 ** many + 1]
            for family in ([], [0], list(plain.ground(many))[-4:]):
                self.hold_wrong_at_each_place(many, family, wrong_things)

    def test_wrong_things_at_any_place_of_many(self):
        wrong_things = [True, False, None, "1", [1], (1,), 1.0, -1, 256, plain.far_numbers()[-1]]
        for family in (list(range(69)), list(range(187, 256)), plain.of_size(8, 4)[:69]):
            self.hold_wrong_at_each_place(8, family, wrong_things)

    def hold_wrong_at_each_place(self, many, family, wrong_things):
        for place in range(len(family) + 1):
            for wrong in wrong_things:
                put_between = family[:place] + [wrong] + family[place:]
                put_instead = family[:place] + [wrong] + family[place + 1:]
                self.assertIs(is_family(many, put_between), False, (many, put_between))
                self.assertIs(is_family(many, put_instead), False, (many, put_instead))

    def test_truths_where_their_numbers_would_do(self):
        for thing in ([False], [True], [False, 1], [0, True], [0, True, 2], [False, True]):
            self.assertIs(is_family(8, thing), False, thing)

    def test_nothing_is_changed(self):
        for handed_in in ([3, 1, 2], [1, 2, 3], [1, "a", 2], [None]):
            kept = list(handed_in)
            is_family(3, handed_in)
            self.assertEqual(handed_in, kept)


def lists_of_sets():
    """Lists of up to 300 sets, in any order, many twice; always the same ones."""
    chance = Random(11)
    told = [[], [0], [255], [0, 0], [255, 0], [5, 5, 5], [1] * 300, list(range(256)), list(range(255, -1, -1))]
    told.append(list(range(256)) + list(range(44)))
    for size in range(9):
        layer = plain.of_size(8, size)
        crowd = (layer * 300)[:300]
        chance.shuffle(crowd)
        told.append(crowd)
    for turn in range(60):
        many = turn % 9
        pool = [s for s in range(2 ** many) if len(plain.names(s)) >= turn % (many + 1)]
        pool = chance.sample(pool, chance.randint(1, len(pool)))
        told.append([chance.choice(pool) for place in range(chance.choice([1, 2, 5, 20, 70, 150, 300]))])
    return told


class TestLeastAndGreatest(unittest.TestCase):
    def test_plain_ones(self):
        self.assertEqual(least([7, 3, 5, 3]), [3, 5])
        self.assertEqual(greatest([1, 6, 2, 6, 1]), [1, 6])
        self.assertEqual(least([6, 1, 4]), [1, 4])
        self.assertEqual(greatest([6, 1, 4]), [1, 6])

    def test_no_sets(self):
        self.assertEqual(least([]), [])
        self.assertEqual(greatest([]), [])

    def test_the_set_0_and_the_whole_ground(self):
        self.assertEqual(least([255, 3, 0, 4]), [0])
        self.assertEqual(greatest([0, 3, 255, 4]), [255])
        self.assertEqual(greatest([0, 0]), [0])
        self.assertEqual(least([255, 255]), [255])

    def test_seventy_are_told_of_three_hundred(self):
        layer = plain.of_size(8, 4)
        crowd = (layer[::-1] * 5)[:300]
        self.assertEqual(len(crowd), 300)
        self.assertEqual(least(crowd), layer)
        self.assertEqual(greatest(crowd), layer)
        self.assertEqual(len(layer), 70)

    def test_lists_in_any_order_some_twice(self):
        for some in lists_of_sets():
            self.assertEqual(least(some), plain.least(some), some)
            self.assertEqual(greatest(some), plain.greatest(some), some)

    def test_what_is_told_is_a_family(self):
        for some in lists_of_sets():
            self.assertTrue(is_family(8, least(some)), some)
            self.assertTrue(is_family(8, greatest(some)), some)

    def test_nothing_is_changed_and_what_is_told_is_the_askers_own(self):
        for some in lists_of_sets():
            for tell in (least, greatest):
                kept = list(some)
                told = tell(some)
                self.assertEqual(some, kept)
                kept_told = list(told)
                told.append(77)
                told.reverse()
                self.assertEqual(some, kept)
                told_again = tell(some)
                self.assertEqual(told_again, kept_told)
                some.append(0)
                self.assertEqual(told_again, kept_told)
                some.pop()

    def test_somewhat_more_than_three_hundred_are_not_refused(self):
        crowd = list(range(256)) + list(range(60, 120))
        self.assertEqual(least(crowd), [0])
        self.assertEqual(greatest(crowd), [255])


class TestSays(unittest.TestCase):
    def test_plain_ones(self):
        self.assertIs(says([3, 4], 3), True)
        self.assertIs(says([3, 4], 7), True)
        self.assertIs(says([3, 4], 4), True)
        self.assertIs(says([3, 4], 2), False)
        self.assertIs(says([3, 4], 0), False)

    def test_the_family_without_sets_says_yes_of_none(self):
        for one in range(256):
            self.assertIs(says([], one), False, one)

    def test_a_family_with_the_set_0_says_yes_of_all(self):
        for one in range(256):
            self.assertIs(says([0], one), True, one)
            self.assertIs(says([0, 7, 255], one), True, one)

    def test_each_set_of_each_ground(self):
        for many in range(7):
            for family in plain.families(many):
                for one in plain.ground(many):
                    self.assertIs(says(family, one), plain.says(family, one), (many, family, one))

    def test_families_of_seventy(self):
        for family in (list(range(186, 256)), plain.of_size(8, 4), list(range(100, 170))):
            for one in range(256):
                self.assertIs(says(family, one), plain.says(family, one), (family, one))

    def test_a_family_and_its_least_sets_say_the_same(self):
        for many in range(9):
            for family in plain.edge_families(many) + list(plain.some_families(many, 20, many + 50)):
                told = least(family)
                for one in plain.ground(many):
                    self.assertIs(says(told, one), says(family, one), (many, family, one))

    def test_nothing_is_changed(self):
        handed_in = [3, 5, 12]
        says(handed_in, 7)
        self.assertEqual(handed_in, [3, 5, 12])


class TestRests(unittest.TestCase):
    def test_plain_ones(self):
        self.assertEqual(rests(3, [1, 6]), [1, 6])
        self.assertEqual(rests(3, [0, 1, 3]), [4, 6, 7])
        self.assertEqual(rests(4, [0, 1, 3]), [12, 14, 15])

    def test_edges(self):
        self.assertEqual(rests(0, []), [])
        self.assertEqual(rests(0, [0]), [0])
        self.assertEqual(rests(8, []), [])
        self.assertEqual(rests(8, [0]), [255])
        self.assertEqual(rests(8, [255]), [0])
        self.assertEqual(rests(8, list(range(70))), list(range(186, 256)))

    def test_rests_are_those_of_the_sets_and_a_family(self):
        for many in range(9):
            everything = frozenset(range(many))
            for family in plain.families(many):
                told = rests(many, family)
                self.assertTrue(is_family(many, told), (many, family))
                wanted = {everything - plain.names(one) for one in family}
                self.assertEqual({plain.names(one) for one in told}, wanted, (many, family))

    def test_nothing_is_changed_and_what_is_told_is_the_askers_own(self):
        for handed_in in ([], [3], [1, 6], [0, 1, 3]):
            kept = list(handed_in)
            told = rests(3, handed_in)
            kept_told = list(told)
            told.append(77)
            self.assertEqual(handed_in, kept)
            self.assertEqual(rests(3, handed_in), kept_told)
            told_again = rests(3, handed_in)
            handed_in.append(7)
            self.assertEqual(told_again, kept_told)


if __name__ == "__main__":
    unittest.main()
