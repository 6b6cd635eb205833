import unittest
from random import Random

from allhits.errors import HitError, NoText
from allhits.families import is_family
from allhits.texts import read_family, read_names, read_set, show_family, show_set
from tests import plain

GROUNDS = ["", "a", "b a", "a b c", "no nones non", "a aa aaa aaaa", "x yx xy yxy", "abcdefgh bcdefghi z",
           "let hits rests either both", "zz z yz zy yy y", "g f e d c b a", "h g f e d c b a",
           "nonenone noneno n on one nonea anone nonf"]

NO_TEXTS = [None, True, False, 0, 1, -1, 10 ** 69, 1.5, b"", b"a", b"none", b"-", [], ["a"], ["a", "b"], [""], (),
            ("a",), {}, {"a": 1}, set(), {"a"}, frozenset(), object(), str, len, float("nan")]

# Signs that stand in no name, no set and no family, but at most at places of their own.
OTHER_SIGNS = "\t\n\r\v\f!\"#$%&'()*,./0123456789:;<=>?@ABCDEFGHIJKLMNOPQRSTUVWXYZ[\\]^_`{|}~"


def spoilt(text, signs, chance):
    """The text with a sign put in, left out, doubled, put otherwise, or two of its signs exchanged."""
    place = chance.randint(0, len(text))
    end = place + chance.randint(0, 1)
    turn = chance.randint(0, 3)
    if turn == 0:
        return text[:place] + chance.choice(signs) + text[end:]
    if turn == 1:
        return text[:place] + text[end:]
    if turn == 2:
        return text[:end] + text[place:]
    other = chance.randint(0, len(text))
    low, high = min(place, other), max(place, other)
    return text[:low] + text[high:high + 1] + text[low + 1:high] + text[low:low + 1] + text[high + 1:]


class TestNames(unittest.TestCase):
    """[25, 26]"""

    def test_plain_ones(self):
        self.assertEqual(read_names("a b c"), ["a", "b", "c"])
        self.assertEqual(read_names("anna bert"), ["anna", "bert"])
        self.assertEqual(read_names("z"), ["z"])

    def test_no_names_at_all(self):
        self.assertEqual(read_names(""), [])

    def test_eight_names_of_eight_letters(self):
        words = [first + "bcdefgh" for first in "ijklmnop"]
        self.assertEqual(read_names(" ".join(words)), words)

    def test_the_order_is_kept(self):
        self.assertEqual(read_names("c a b"), ["c", "a", "b"])

    def test_every_small_letter(self):
        for letter in "abcdefghijklmnopqrstuvwxyz":
            self.assertEqual(read_names(letter), [letter])
            self.assertEqual(read_names(letter * 8), [letter * 8])

    def test_words_that_begin_or_end_one_another_and_words_like_none(self):
        for text in GROUNDS[1:]:
            self.assertEqual(read_names(text), text.split(" "))

    def refused(self, text):
        with self.assertRaises(NoText, msg=repr(text)):
            read_names(text)

    def test_two_blanks_and_a_blank_at_an_end(self):
        for text in ("a  b", " a", "a ", " ", "  ", " a b", "a b ", "a b  c", "   a"):
            self.refused(text)

    def test_great_letters_and_other_signs(self):
        for sign in OTHER_SIGNS + "+-":
            for text in (sign, f"a{sign}", f"{sign}a", f"a{sign}b", f"a {sign}", f"a b{sign} c"):
                self.refused(text)

    def test_letters_of_other_tongues(self):
        for sign in "\u00e4\u00df\u03b1\u0430\u00aa\uff41":
            self.refused(sign)
            self.refused(f"a {sign}b")

    def test_tabs_and_line_ends_between(self):
        for text in ("a\tb", "a\nb", "a \nb", "a\n", "\na", "a b\n", "a\r\nb", "\t", "\n"):
            self.refused(text)

    def test_a_name_of_nine_letters(self):
        for text in ("abcdefghi", "a abcdefghi", "abcdefghi a", "a" * 4000):
            self.refused(text)

    def test_nine_names(self):
        self.refused("a b c d e f g h i")
        self.refused(" ".join("abcdefghijklmnopqrstuvwxyz"))

    def test_two_alike(self):
        for text in ("a a", "a b a", "ab c ab d", "a b c d e f g a"):
            self.refused(text)

    def test_one_called_none(self):
        for text in ("none", "none a", "a none", "a none b"):
            self.refused(text)

    def test_what_is_no_text(self):
        for thing in NO_TEXTS:
            self.refused(thing)

    def test_spoilt_ones_are_held_against_a_plain_reading(self):
        chance = Random(2300)
        right = 0
        for turn in range(4000):
            text = spoilt(chance.choice(GROUNDS), "ab  non" + OTHER_SIGNS, chance)
            words = plain.names_read(text)
            right = right + (words is not None)
            if words is None:
                self.refused(text)
            else:
                self.assertEqual(read_names(text), words, repr(text))
        self.assertTrue(1000 < right < 3000, right)

    def test_a_refusal_is_a_hit_error_and_a_value_error(self):
        for refusal in (HitError, ValueError):
            self.assertRaises(refusal, read_names, "A")
            self.assertRaises(refusal, read_set, ["a"], "b")
            self.assertRaises(refusal, read_family, ["a"], "b")

    def test_what_is_told_is_the_askers_own(self):
        for text in ("", "a", "a b c"):
            told = read_names(text)
            kept = list(told)
            told.append("z")
            told.reverse()
            self.assertEqual(read_names(text), kept)


class TestSets(unittest.TestCase):
    """[25, 26]"""

    def test_shown(self):
        words = ["a", "b", "c"]
        self.assertEqual(show_set(words, 0), "-")
        self.assertEqual(show_set(words, 1), "a")
        self.assertEqual(show_set(words, 6), "b+c")
        self.assertEqual(show_set(words, 7), "a+b+c")
        self.assertEqual(show_set(["z", "a"], 3), "z+a")
        self.assertEqual(show_set([], 0), "-")

    def test_read(self):
        words = ["a", "b", "c"]
        self.assertEqual(read_set(words, "-"), 0)
        self.assertEqual(read_set(words, "a"), 1)
        self.assertEqual(read_set(words, "b+c"), 6)
        self.assertEqual(read_set(words, "a+b+c"), 7)
        self.assertEqual(read_set(["z", "a"], "z+a"), 3)
        self.assertEqual(read_set([], "-"), 0)

    def test_each_set_written_and_read_again(self):
        for text in GROUNDS:
            words = read_names(text)
            for one in plain.ground(len(words)):
                written = show_set(words, one)
                self.assertEqual(written, plain.set_shown(words, one))
                self.assertEqual(read_set(words, written), one)
                self.assertIs(type(written), str)
                self.assertIs(type(read_set(words, written)), int)

    def refused(self, words, text):
        with self.assertRaises(NoText, msg=repr((words, text))):
            read_set(words, text)

    def test_a_name_that_is_not_there(self):
        for text in ("d", "a+d", "d+a", "ab", "a+bb", "aa", "none", "a+none", "a-b", "a+-", "-+a", "--"):
            self.refused(["a", "b", "c"], text)
        for text in ("a", "none", "+", "", "-+-"):
            self.refused([], text)

    def test_names_that_begin_or_end_others(self):
        for text in ("n", "on", "nonon", "none", "no+none", "nonesnon"):
            self.refused(["no", "nones", "non"], text)
        self.assertEqual(read_set(["no", "nones", "non"], "no+non"), 5)

    def test_a_name_twice(self):
        for text in ("a+a", "a+a+b", "a+b+b", "a+b+a", "b+b"):
            self.refused(["a", "b", "c"], text)

    def test_another_order(self):
        for text in ("b+a", "c+a", "a+c+b", "c+b+a", "b+a+c"):
            self.refused(["a", "b", "c"], text)
        self.refused(["z", "a"], "a+z")

    def test_blanks_and_signs_at_the_wrong_places(self):
        for text in ("", " ", "+", "++", "a+", "+a", "a++b", "a +b", "a+ b", " a", "a ", "a b", "- ", " -", "-a", "a-",
                     "a\n", "\na", "a\t+b", "-\n", "A", "a,b", "a|b"):
            self.refused(["a", "b", "c"], text)

    def test_what_is_no_text(self):
        for thing in NO_TEXTS:
            self.refused(["a", "b"], thing)
            self.refused([], thing)

    def test_spoilt_ones_are_held_against_a_plain_reading(self):
        chance = Random(2400)
        right = 0
        for turn in range(4000):
            words = chance.choice(GROUNDS).split()
            written = plain.set_shown(words, chance.randint(0, 2 ** len(words) - 1))
            text = spoilt(written, "ab+-non " + OTHER_SIGNS, chance)
            one = plain.set_read(words, text)
            right = right + (one is not None)
            if one is None:
                self.refused(words, text)
            else:
                self.assertEqual(read_set(words, text), one, repr(text))
        self.assertTrue(300 < right < 3700, right)


class TestFamilies(unittest.TestCase):
    """[25, 26]"""

    def test_shown(self):
        words = ["a", "b", "c"]
        self.assertEqual(show_family(words, []), "none")
        self.assertEqual(show_family(words, [0]), "-")
        self.assertEqual(show_family(words, [0, 1, 6]), "- a b+c")
        self.assertEqual(show_family(words, [3, 4]), "a+b c")
        self.assertEqual(show_family([], []), "none")
        self.assertEqual(show_family([], [0]), "-")

    def test_read(self):
        words = ["a", "b", "c"]
        self.assertEqual(read_family(words, "none"), [])
        self.assertEqual(read_family(words, "-"), [0])
        self.assertEqual(read_family(words, "- a b+c"), [0, 1, 6])
        self.assertEqual(read_family(words, "a+b c"), [3, 4])
        self.assertEqual(read_family([], "none"), [])
        self.assertEqual(read_family([], "-"), [0])

    def test_a_family_need_not_be_its_own_least_sets(self):
        self.assertEqual(read_family(["a", "b"], "a a+b"), [1, 3])
        self.assertEqual(show_family(["a", "b"], [1, 3]), "a a+b")

    def test_each_family_written_and_read_again(self):
        for text in GROUNDS:
            words = read_names(text)
            many = len(words)
            for family in plain.families(many):
                written = show_family(words, family)
                self.assertEqual(written, plain.family_shown(words, family))
                told = read_family(words, written)
                self.assertEqual(told, family)
                self.assertTrue(is_family(many, told))
                self.assertIs(type(written), str)

    def test_seventy_sets_and_no_more(self):
        words = list("abcdefgh")
        for first in (0, 1, 100, 185):
            seventy = list(range(first, first + 70))
            self.assertEqual(read_family(words, plain.family_shown(words, seventy)), seventy)
            self.refused(words, plain.family_shown(words, list(range(first, first + 71))))
        self.refused(words, plain.family_shown(words, list(range(256))))

    def refused(self, words, text):
        with self.assertRaises(NoText, msg=repr((words, text))):
            read_family(words, text)

    def test_sets_that_do_not_rise(self):
        for text in ("b a", "a+b b", "c a+b", "a -", "a b+c c", "a+b+c c", "a b a"):
            self.refused(["a", "b", "c"], text)

    def test_a_set_twice(self):
        for text in ("a a", "- -", "a b b", "a+b a+b", "- - a"):
            self.refused(["a", "b", "c"], text)

    def test_a_set_that_is_none(self):
        for text in ("d", "a d", "b+a", "a+a", "a none", "none a", "none none", "- none", "a+", "a+b+", "a + b", "A",
                     "a,b", "-a", "none+a"):
            self.refused(["a", "b", "c"], text)

    def test_blanks(self):
        for text in ("", " ", "  ", " a", "a ", "a  b", " none", "none ", " -", "- ", "-  a", "a b ", "  a b"):
            self.refused(["a", "b", "c"], text)
            self.refused([], text)

    def test_tabs_and_line_ends(self):
        for text in ("a\tb", "a\nb", "a\n", "\na", "none\n", "\nnone", "-\n", "a \nb", "a b\r\n", "\t"):
            self.refused(["a", "b", "c"], text)

    def test_what_is_no_text(self):
        for thing in NO_TEXTS:
            self.refused(["a", "b"], thing)
            self.refused([], thing)

    def test_words_like_none_are_names(self):
        words = ["no", "nones", "non"]
        self.assertEqual(read_family(words, "no nones non"), [1, 2, 4])
        self.assertEqual(read_family(words, "nones+non"), [6])
        for text in ("nonen", "non es", "none s", "nonones"):
            self.refused(words, text)

    def test_spoilt_ones_are_held_against_a_plain_reading(self):
        chance = Random(2500)
        right = 0
        for turn in range(6000):
            words = chance.choice(GROUNDS).split()
            many = len(words)
            family = sorted(chance.sample(plain.ground(many), chance.randint(0, min(4, 2 ** many))))
            text = spoilt(plain.family_shown(words, family), "ab+-non   " + OTHER_SIGNS, chance)
            read = plain.family_read(words, text)
            right = right + (read is not None)
            if read is None:
                self.refused(words, text)
            else:
                self.assertEqual(read_family(words, text), read, repr(text))
        self.assertTrue(400 < right < 5600, right)


class TestTheAskersOwn(unittest.TestCase):
    def test_nothing_is_changed(self):
        words, family = ["a", "b", "c"], [0, 3, 6]
        show_set(words, 5)
        show_family(words, family)
        read_set(words, "a+c")
        read_family(words, "- a+b b+c")
        for text in ("d", "b+a", "", "a a"):
            self.assertRaises(NoText, read_set, words, text)
            self.assertRaises(NoText, read_family, words, text)
        self.assertEqual((words, family), (["a", "b", "c"], [0, 3, 6]))

    def test_told_families_are_the_askers_own(self):
        for text, family in (("none", []), ("-", [0]), ("a b+c", [1, 6])):
            told = read_family(["a", "b", "c"], text)
            told.append(77)
            told.reverse()
            self.assertEqual(read_family(["a", "b", "c"], text), family)

    def test_words_changed_later_change_nothing_that_was_told(self):
        words = ["a", "b"]
        told = read_family(words, "a b")
        words.reverse()
        self.assertEqual(told, [1, 2])
        self.assertEqual(read_family(words, "b a"), [1, 2])
        self.assertEqual(show_family(words, told), "b a")


if __name__ == "__main__":
    unittest.main()
