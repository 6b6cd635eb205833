import unittest
from itertools import permutations

from allhits.sets import holds, is_many, is_set, meets, names_in, rest, set_of
from tests import plain


class TestIsMany(unittest.TestCase):
    def test_from_0_to_8(self):
        for thing in range(9):
            self.assertIs(is_many(thing), True, thing)

    def test_numbers_beyond(self):
        for thing in [9, 10, 255, 256] + plain.far_numbers():
            self.assertIs(is_many(thing), False, thing)

    def test_no_numbers(self):
        for thing in plain.no_numbers():
            self.assertIs(is_many(thing), False, thing)


class TestIsSet(unittest.TestCase):
    def test_just_those_from_0_below_the_end(self):
        for many in range(9):
            for thing in range(-300, 600):
                self.assertIs(is_set(many, thing), 0 <= thing < 2 ** many, (many, thing))

    def test_the_ground_of_no_names_has_the_set_0_alone(self):
        self.assertEqual([s for s in range(-2, 9) if is_set(0, s)], [0])

    def test_the_ground_of_eight_names_ends_at_255(self):
        self.assertIs(is_set(8, 255), True)
        self.assertIs(is_set(8, 256), False)

    def test_numbers_far_beyond(self):
        for many in range(9):
            for thing in plain.far_numbers():
                self.assertIs(is_set(many, thing), False, (many, thing))

    def test_no_numbers(self):
        for many in range(9):
            for thing in plain.no_numbers():
                self.assertIs(is_set(many, thing), False, (many, thing))


class TestNames(unittest.TestCase):
    def test_the_documents_own_sets(self):
        self.assertEqual(names_in(5), [0, 2])
        self.assertEqual(names_in(0), [])
        self.assertEqual(names_in(255), [0, 1, 2, 3, 4, 5, 6, 7])

    def test_names_in_tells_each_name_rising(self):
        for one in range(256):
            self.assertEqual(names_in(one), sorted(plain.names(one)), one)

    def test_told_names_are_the_askers_own(self):
        told = names_in(5)
        told.append(7)
        self.assertEqual(names_in(5), [0, 2])

    def test_set_of_gives_back_what_names_in_told(self):
        for one in range(256):
            self.assertEqual(set_of(sorted(plain.names(one))), one)

    def test_set_of_no_names(self):
        told = set_of([])
        self.assertEqual(told, 0)
        self.assertIs(is_set(0, told), True)

    def test_set_of_names_in_any_order(self):
        for order in permutations([0, 2, 3, 7]):
            self.assertEqual(set_of(list(order)), 141, order)

    def test_set_of_names_twice(self):
        self.assertEqual(set_of([0, 0]), 1)
        self.assertEqual(set_of([7, 7, 7]), 128)
        self.assertEqual(set_of([2, 0, 2, 0, 2]), 5)
        self.assertEqual(set_of([7, 6, 5, 4, 3, 2, 1, 0] * 37), 255)
        for one in range(256):
            had = sorted(plain.names(one))
            self.assertEqual(set_of(had[::-1] + had), one)

    def test_set_of_changes_nothing(self):
        handed_in = [3, 1, 3, 0]
        set_of(handed_in)
        self.assertEqual(handed_in, [3, 1, 3, 0])


class TestTwoSets(unittest.TestCase):
    def test_holds(self):
        for one in range(256):
            for other in range(256):
                told = plain.names(one) >= plain.names(other)
                self.assertIs(holds(one, other), told, (one, other))

    def test_meets(self):
        for one in range(256):
            for other in range(256):
                told = len(plain.names(one) & plain.names(other)) > 0
                self.assertIs(meets(one, other), told, (one, other))

    def test_the_set_without_names(self):
        for one in range(256):
            self.assertIs(holds(one, 0), True)
            self.assertIs(holds(0, one), one == 0)
            self.assertIs(meets(one, 0), False)
            self.assertIs(meets(0, one), False)

    def test_the_whole_ground(self):
        for one in range(256):
            self.assertIs(holds(255, one), True)
            self.assertIs(meets(255, one), one != 0)


class TestRest(unittest.TestCase):
    def test_just_the_names_that_the_set_has_not(self):
        for many in range(9):
            for one in range(2 ** many):
                told = rest(many, one)
                self.assertIs(is_set(many, told), True, (many, one))
                self.assertEqual(plain.names(told), frozenset(range(many)) - plain.names(one), (many, one))

    def test_edges(self):
        self.assertEqual(rest(0, 0), 0)
        self.assertEqual(rest(8, 0), 255)
        self.assertEqual(rest(8, 255), 0)
        self.assertEqual(rest(3, 5), 2)


if __name__ == "__main__":
    unittest.main()
