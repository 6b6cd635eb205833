import unittest
from random import Random

from allhits.desk import Desk
from allhits.duals import held
from allhits.errors import Full, HitError, NoDeed, NoFamily, NoText, TooMany
from allhits.families import rests, says
from allhits.heavier import compared, ranks, turns
from allhits.hits import hits, looked
from allhits.parts import always_in, always_out, both, either
from allhits.texts import read_family, show_family, show_set
from allhits.votes import by_weights
from tests import plain

REFUSALS = {"NoDeed": NoDeed, "NoFamily": NoFamily, "NoText": NoText, "Full": Full}
GROUNDS = ["", "a", "a b", "a b c", "d c b a", "no nones non", "f g a h b", "a b c d e", "a b c d e f", "x y z u v w s",
           "abcdefgh b c d e f g h"]
NO_ROWS = [None, True, False, 0, 1, 10 ** 69, 1.5, b"", b"show f", [], ["show", "f"], ("show", "f"), {}, {"show": "f"},
           set(), object(), str, len]


def desk_with(text, rows):
    desk = Desk(text)
    for row in rows:
        desk.say(row)
    return desk


def full_desk(text):
    """A desk with twenty families, by the names fa to ft."""
    return desk_with(text, [f"let f{letter} a+b c" for letter in "abcdefghijklmnopqrst"])


def all_shown(desk, names):
    return [desk.say(f"show {name}") for name in names]


def weights_shown(words, told):
    """By the interface: the weights and the bar, or the yes sets, a /, the no sets."""
    if told[0] == "weights":
        return " ".join(["weights"] + [str(part) for part in told[1] + [told[2]]])
    yes, no = [[plain.set_shown(words, one) for one in some] for some in told[1:]]
    return " ".join(["trade"] + yes + ["/"] + no)


class DeskCase(unittest.TestCase):
    def hold(self, desk, row, answer):
        told = desk.say(row)
        self.assertEqual(told, answer, row)
        self.assertIs(type(told), str)

    def refused(self, refusal, desk, row):
        with self.assertRaises(HitError, msg=repr(row)) as caught:
            desk.say(row)
        self.assertIs(type(caught.exception), refusal, repr(row))


class TestMade(DeskCase):
    def test_of_a_text_of_names(self):
        for text in GROUNDS:
            desk = Desk(text)
            self.hold(desk, "let f none", "ok")
            self.hold(desk, "show f", "none")

    def test_of_what_is_no_text_of_names(self):
        for thing in ["a  b", " ", "a ", " a", "A", "a b a", "none", "a none", "abcdefghi", "a b c d e f g h i", "a\tb",
                      "a\n", "a+b", "-", "1"] + NO_ROWS:
            self.assertRaises(NoText, Desk, thing)

    def test_a_new_desk_keeps_nothing(self):
        for name in ("f", "a", "none", "let"):
            self.refused(NoFamily, Desk("a b"), f"show {name}")


class TestRowsThatKeep(DeskCase):
    def made(self, first, row, answer):
        desk = desk_with("a b c", first)
        self.hold(desk, row, "ok")
        self.hold(desk, f"show {row.split(' ')[1]}", answer)

    def test_let(self):
        for text in ("none", "-", "a", "a+b b+c", "- a a+b+c", "a b c", "a a+b c"):
            self.made([], f"let f {text}", text)

    def test_let_over_the_ground_of_no_names(self):
        for text in ("none", "-"):
            desk = Desk("")
            self.hold(desk, f"let f {text}", "ok")
            self.hold(desk, "show f", text)

    def test_hits(self):
        self.made(["let f a+b b+c"], "hits g f", "b a+c")
        self.made(["let f none"], "hits g f", "-")
        self.made(["let f -"], "hits g f", "none")

    def test_rests(self):
        self.made(["let f a+b b+c"], "rests g f", "a c")
        self.made(["let f - a+b+c"], "rests g f", "- a+b+c")
        self.made(["let f none"], "rests g f", "none")

    def test_either_and_both(self):
        first = ["let f a+b", "let g c b+c"]
        self.made(first, "either h f g", "a+b c")
        self.made(first, "either h g f", "a+b c")
        self.made(first, "both h f g", "a+b+c")
        self.made(first, "either h g g", "c")
        self.made(first, "both h g g", "c")

    def test_in_and_out(self):
        self.made(["let f a+b b+c"], "in g f b", "a c")
        self.made(["let f a+b b+c"], "in g f a", "b")
        self.made(["let f a+b b+c"], "out g f a", "b+c")
        self.made(["let f a+b b+c"], "out g f b", "none")
        self.made(["let f c"], "in g f c", "-")

    def test_in_the_place_of_an_old_one(self):
        for row, answer in (("let f c", "c"), ("hits f g", "b a+c"), ("rests f g", "a c"), ("either f g h", "a b+c"),
                            ("both f g h", "a+b"), ("in f g b", "a c"), ("out f g a", "b+c")):
            desk = desk_with("a b c", ["let f a b", "let g a+b b+c", "let h a"])
            self.hold(desk, row, "ok")
            self.assertEqual(all_shown(desk, "fgh"), [answer, "a+b b+c", "a"], row)

    def test_a_family_made_of_itself(self):
        for row, answer in (("hits f f", "b a+c"), ("rests f f", "a c"), ("either f f g", "a+b c"),
                            ("either f g f", "a+b c"), ("both f f f", "a+b b+c"), ("in f f b", "a c"),
                            ("out f f c", "a+b")):
            desk = desk_with("a b c", ["let f a+b b+c", "let g c"])
            self.hold(desk, row, "ok")
            self.assertEqual(all_shown(desk, "fg"), [answer, "c"], row)

    def test_what_was_made_stays_when_what_it_was_made_of_goes(self):
        desk = desk_with("a b c", ["let f a+b b+c", "hits g f", "rests h f", "either i f f", "both j f f", "in k f b",
                                   "out l f a", "let f none"])
        self.assertEqual(all_shown(desk, "fghijkl"), ["none", "b a+c", "a c", "a+b b+c", "a+b b+c", "a c", "b+c"])

    def test_names_that_families_may_have(self):
        # The words of rows, the ground's names and none are free for them.
        for name in ("a", "b", "z", "none", "let", "show", "hits", "in", "nonone", "abcdefgh", "zzzzzzzz", "ok", "yes"):
            desk = desk_with("a b c", [f"let {name} a+b b+c"])
            self.hold(desk, f"show {name}", "a+b b+c")
            self.hold(desk, f"hits {name} {name}", "ok")
            self.hold(desk, f"says {name} b", "yes")
            self.hold(desk, f"held {name} {name}", "apart b a+c")

    def test_a_name_that_is_the_same_as_one_of_the_grounds(self):
        desk = desk_with("a b c", ["let a b+c", "let b a"])
        self.hold(desk, "in a a b", "ok")
        self.hold(desk, "show a", "c")
        self.hold(desk, "says b a", "yes")
        self.hold(desk, "compare b a b", "heavier -")
        self.hold(desk, "both c a b", "ok")
        self.hold(desk, "show c", "a+c")
        self.hold(desk, "says c c", "no")


class TestRowsThatAsk(DeskCase):
    def asked(self, ground, family, rows):
        desk = desk_with(ground, [f"let f {family}"])
        for row, answer in rows.items():
            self.hold(desk, row, answer)

    def test_show(self):
        self.asked("a b c", "a a+b c", {"show f": "a a+b c"})
        self.asked("a b c", "none", {"show f": "none"})
        self.asked("a b c", "-", {"show f": "-"})
        self.asked("z y", "z+y", {"show f": "z+y"})

    def test_says(self):
        self.asked("a b c", "a+b c", {"says f a+b": "yes", "says f a": "no", "says f -": "no", "says f a+c": "yes",
                                      "says f a+b+c": "yes"})
        self.asked("a b", "none", {"says f -": "no", "says f a+b": "no"})
        self.asked("a b", "-", {"says f -": "yes", "says f b": "yes"})
        self.asked("", "-", {"says f -": "yes"})

    def test_look(self):
        self.asked("a b c", "a+b c", {"look f a+c": "least a:a+b c:c", "look f a": "misses c", "look f -": "misses a+b",
                                      "look f a+b+c": "spare a", "look f b+c": "least b:a+b c:c"})
        self.asked("a b c", "none", {"look f -": "least", "look f b+c": "spare b"})
        self.asked("a b c", "-", {"look f a+b+c": "misses -", "look f -": "misses -"})
        self.asked("", "none", {"look f -": "least"})

    def test_held(self):
        desk = desk_with("a b c", ["let f a+b b+c", "let g b a+c", "let h b", "let i a c", "let n none", "let e -"])
        for row, answer in {"held f g": "each", "held g f": "each", "held f h": "neither b", "held f i": "apart a+b c",
                            "held i f": "apart a b+c", "held n e": "each", "held n n": "neither -",
                            "held e e": "apart - -", "held e f": "apart - a+b", "held h h": "each"}.items():
            self.hold(desk, row, answer)

    def test_compare(self):
        self.asked("a b c d", "a+b c+d", {"compare f a b": "alike", "compare f a c": "apart b d",
                                          "compare f d a": "apart c b"})
        self.asked("a b c", "a+b b+c", {"compare f a b": "lighter c", "compare f b c": "heavier a",
                                        "compare f c a": "alike"})
        self.asked("a b c", "a", {"compare f a c": "heavier -", "compare f b a": "lighter -"})

    def test_turns(self):
        self.asked("a b c", "a+b b+c", {"turns f": "1 3 1"})
        self.asked("a b c", "none", {"turns f": "0 0 0"})
        self.asked("a", "a", {"turns f": "1"})
        self.asked("", "-", {"turns f": ""})
        self.asked("a b c d e f g h", "a", {"turns f": "128 0 0 0 0 0 0 0"})

    def test_ranks(self):
        self.asked("a b c", "a+b b+c", {"ranks f": "ranks b a=c"})
        self.asked("a b c", "c", {"ranks f": "ranks c a=b"})
        self.asked("a b c d", "a+b c+d", {"ranks f": "apart a c"})
        self.asked("a b", "none", {"ranks f": "ranks a=b"})
        self.asked("", "-", {"ranks f": "ranks"})
        self.asked("a", "-", {"ranks f": "ranks a"})

    def test_weights(self):
        for ground, family in (("", "none"), ("", "-"), ("a", "a"), ("a b c", "a+b b+c"), ("a b c d", "a+b c+d"),
                               ("a b c d e", "a+b c+d e"), ("x y", "none"), ("x y", "-")):
            words = ground.split()
            told = by_weights(len(words), read_family(words, family))
            self.asked(ground, family, {"weights f": weights_shown(words, told)})

    def test_weights_have_their_form(self):
        told = desk_with("a b c", ["let f a+b b+c"]).say("weights f").split(" ")
        self.assertEqual((told[0], len(told)), ("weights", 5))
        self.assertTrue(plain.bears_out(3, [3, 6], ("weights", [int(part) for part in told[1:4]], int(told[4]))))
        self.assertEqual(len(desk_with("", ["let f none"]).say("weights f").split(" ")), 2)
        told = desk_with("a b c d", ["let f a+b c+d"]).say("weights f")
        self.assertIn(told, ("trade a+b c+d / a+c b+d", "trade a+b c+d / b+c a+d"))

    def test_of_more_than_five_names_weights_are_refused(self):
        for text in ("a b c d e f", "a b c d e f g", "a b c d e f g h"):
            desk = desk_with(text, ["let f a"])
            self.refused(TooMany, desk, "weights f")
            self.refused(NoFamily, desk, "weights g")
            self.hold(desk, "show f", "a")

    def test_asking_changes_nothing(self):
        desk = desk_with("a b c", ["let f a a+b c", "let g b"])
        for row in ("show f", "says f a+b", "look f a+c", "held f g", "held g f", "compare f a b", "turns f", "ranks f",
                    "weights f"):
            self.assertEqual(desk.say(row), desk.say(row))
            self.assertEqual(all_shown(desk, "fg"), ["a a+b c", "b"], row)


class TestRefusals(DeskCase):
    families = ("f", "g")

    def desk(self):
        return desk_with("a b c", ["let f a+b b+c", "let g c"])

    def all_refused(self, refusal, rows):
        desk = self.desk()
        for row in rows:
            self.refused(refusal, desk, row)
            self.assertEqual(all_shown(desk, self.families), ["a+b b+c", "c"], row)
            for name in ("h", "x", "", "F", "abcdefghi"):
                self.refused(NoFamily, desk, f"show {name}")

    def test_a_row_that_is_no_text(self):
        self.all_refused(NoDeed, NO_ROWS)

    def test_no_such_first_word(self):
        self.all_refused(NoDeed, ["", " ", "  ", "f", "f g", "shows f", "sho f", "Show f", "SHOW f", " show f",
                                  "show\tf", "show\n", "show\nf", "none", "ok", "new h a", "-", "compared f a b",
                                  "lets h a", "in\tx f a", "look: f a"])

    def test_not_as_many_words_as_wanted(self):
        self.all_refused(NoDeed, [
            "let", "let h", "let ", "hits", "hits h", "hits h f g", "rests", "rests h", "rests h f g", "either h f",
            "either h f g g", "both h f", "both h f g g", "in h f", "in h f a b", "out h f", "out h f a b", "show",
            "show f g", "says f", "says f a b", "look f", "look f a b", "held f", "held f g g", "compare f a",
            "compare f a b c", "turns", "turns f g", "ranks", "ranks f g", "weights", "weights f g", "either", "both",
            "in", "out", "says", "look", "held", "compare"])

    def test_words_without_signs_count(self):
        self.all_refused(NoDeed, ["show f ", "show  f", "hits h f ", "hits  h f", "says f  a", "says f a ", "turns f ",
                                  "held f  g", "ranks  f", "compare f a  b", "weights f ", "in h f a ", " let h a",
                                  " hits h f"])

    def test_a_family_that_is_not_there(self):
        self.all_refused(NoFamily, [
            "show h", "show ", "show F", "show f\n", "show a+b", "show none", "show a", "says h a", "look h a",
            "held h f", "held f h", "held h i", "compare h a b", "turns h", "turns ", "ranks h", "weights h",
            "hits h h", "hits h i", "rests h i", "either h i f", "either h f i", "both h i f", "both h f i",
            "in h i a", "out h i a", "hits h ", "says  a", "held  f", "held f ", "ranks ", "weights ",
            "show abcdefghi", "show 1", "either h  f", "either h f ", "in h  a"])

    def test_a_new_name_that_is_no_such_word(self):
        for name in ("", "F", "1", "a1", "a+b", "-", "abcdefghi", "fF", "f\n", "\tf", "f\t", "f_g", "f-", "\u00e4"):
            self.all_refused(NoText, [f"let {name} a", f"let {name} ", f"hits {name} f", f"rests {name} f",
                                      f"either {name} f g", f"both {name} f g", f"in {name} f a", f"out {name} f a"])

    def test_a_set_that_can_not_be_read(self):
        for text in ("", "d", "b+a", "a+a", "a+", "+a", "none", "A", "a\n", "f", "--", "a,b"):
            self.all_refused(NoText, [f"says f {text}", f"look f {text}"])

    def test_a_name_that_is_not_there(self):
        for text in ("", "d", "f", "g", "A", "a+b", "-", "none", "a\n", "aa"):
            self.all_refused(NoText, [f"in h f {text}", f"out h f {text}", f"compare f {text} a", f"compare f a {text}",
                                      f"in f f {text}", f"out g f {text}"])

    def test_a_name_held_against_itself(self):
        self.all_refused(NoText, ["compare f a a", "compare f b b", "compare g c c", "compare f d d"])

    def test_the_text_of_a_family_that_can_not_be_read(self):
        for text in ("", " ", "d", "b a", "a a", "a  b", " a", "a ", "none a", "a none", "a+a", "b+a", "a\n", "A",
                     "a\tb", "none ", " none", "f", "  ", "- -"):
            self.all_refused(NoText, [f"let h {text}", f"let f {text}"])

    def test_more_than_seventy_sets(self):
        desk = Desk("a b c d e f g h")
        words = list("abcdefgh")
        seventy = plain.family_shown(words, list(range(100, 170)))
        self.hold(desk, f"let f {seventy}", "ok")
        self.hold(desk, "show f", seventy)
        self.refused(NoText, desk, f"let f {plain.family_shown(words, list(range(100, 171)))}")
        self.hold(desk, "show f", seventy)

    def test_let_with_nothing_behind_the_blank_and_without_the_blank(self):
        for text in ("", "a b c"):
            desk = Desk(text)
            self.refused(NoText, desk, "let f ")
            self.refused(NoDeed, desk, "let f")
            self.refused(NoDeed, desk, "let ")
            self.refused(NoDeed, desk, "let")
            self.refused(NoText, desk, "let  ")
            self.refused(NoText, desk, "let  none")
            self.refused(NoText, desk, "let  f none")
            self.refused(NoText, desk, "let f  none")
            self.refused(NoText, desk, "let f none ")
            self.refused(NoFamily, desk, "show f")
            self.refused(NoFamily, desk, "show ")

    def test_two_in_one_row_from_the_left(self):
        for refusal, rows in (
                (NoText, ["hits H i", "hits  i", "rests 1 i", "either H i j", "both H f i", "in H i d", "out H i a",
                          "in H f d", "let H d", "let H "]),
                (NoFamily, ["says h d", "says h ", "look h b+a", "compare h d e", "compare h a a", "compare h a d",
                            "in h i d", "out h i ", "either h i j", "held h i", "in h H d", "says  "]),
                (NoDeed, ["hits H i j", "says h d e", "let H", "compare h d", "held h", "shows H", "weights h i",
                          "in H i", "compare f a a a"])):
            self.all_refused(refusal, rows)

    def test_the_words_of_an_error_are_free_but_its_classes_are_not(self):
        desk = self.desk()
        for row in ("shows f", "show h", "let H a", "says f d"):
            self.assertRaises(HitError, desk.say, row)
            self.assertRaises(ValueError, desk.say, row)


class TestTwentyFamilies(DeskCase):
    names = [f"f{letter}" for letter in "abcdefghijklmnopqrst"]
    made_anew = ("let {} c", "hits {} fa", "rests {} fa", "either {} fa fb", "both {} fa fb", "in {} fa a",
                 "out {} fa a")

    def test_twenty_and_the_twenty_first(self):
        desk = full_desk("a b c")
        for form in self.made_anew:
            self.refused(Full, desk, form.format("fu"))
            self.refused(NoFamily, desk, "show fu")
            self.assertEqual(all_shown(desk, self.names), ["a+b c"] * 20)

    def test_nineteen_and_each_row_for_the_twentieth(self):
        for form in self.made_anew:
            desk = desk_with("a b c", [f"let {name} a+b c" for name in self.names[:19]])
            self.hold(desk, form.format("z"), "ok")
            self.refused(Full, desk, "let y c")
            self.assertEqual(all_shown(desk, self.names[:19]), ["a+b c"] * 19)

    def test_in_the_place_of_an_old_one(self):
        desk = full_desk("a b c")
        for form in self.made_anew:
            for name in ("ft", "fj"):
                self.hold(desk, form.format(name), "ok")
        self.refused(Full, desk, "let fu c")
        self.hold(desk, "hits fa fa", "ok")
        self.assertEqual(all_shown(desk, ["fa", "fb", "ft"]), ["a+c b+c", "a+b c", "c"])

    def test_other_refusals_come_before(self):
        desk = full_desk("a b c")
        for refusal, rows in ((NoText, ["let fu d", "let fu ", "let FU c", "in fu fa d", "out fu fa ", "hits FU fa"]),
                              (NoFamily, ["hits fu fu", "rests fu fx", "either fu fa fx", "both fu fx fa",
                                          "in fu fx d"]),
                              (NoDeed, ["let fu", "hits fu", "in fu fa", "make fu fa", "rests fu fa fb"])):
            for row in rows:
                self.refused(refusal, desk, row)
        self.assertEqual(all_shown(desk, self.names), ["a+b c"] * 20)

    def test_a_refused_row_takes_no_place(self):
        desk = Desk("a b c")
        for turn in range(30):
            self.refused(NoText, desk, f"let {'n' * (turn % 8 + 1)} d")
            self.refused(NoFamily, desk, f"hits {'n' * (turn % 8 + 1)} x")
        for name in self.names:
            self.hold(desk, f"let {name} c", "ok")
        self.refused(Full, desk, "let fu c")

    def test_the_same_name_again_takes_no_place(self):
        desk = Desk("a b c")
        for turn in range(50):
            self.hold(desk, "let f c", "ok")
        for name in self.names[:19]:
            self.hold(desk, f"let {name} c", "ok")
        self.refused(Full, desk, "let fu c")

    def test_a_full_desk_still_answers(self):
        desk = full_desk("a b c")
        self.hold(desk, "says fa c", "yes")
        self.hold(desk, "turns ft", "1 1 3")
        self.hold(desk, "held fa fb", "apart a+b c")


class TestTwoDesks(DeskCase):
    def test_they_know_nothing_of_each_other(self):
        one, other = Desk("a b c"), Desk("a b c")
        self.hold(one, "let f a+b", "ok")
        self.refused(NoFamily, other, "show f")
        self.hold(other, "let f c", "ok")
        self.hold(one, "show f", "a+b")
        self.hold(other, "hits f f", "ok")
        self.hold(one, "show f", "a+b")

    def test_each_has_its_own_names_and_its_own_twenty(self):
        one = full_desk("a b c")
        other = Desk("x y")
        self.hold(other, "let f x", "ok")
        self.refused(NoText, other, "let g a")
        self.refused(NoText, one, "says fa x")
        self.refused(Full, one, "let g a")


class TestAgainstAPlainDesk(DeskCase):
    """Drawn rows, right ones and wrong ones, told to the desk and to a desk by the document's words."""

    new_names = "f g h a b none let hits abcdefgh zz p q r s t u v w pp qq rr ss tt uu vv ww".split()

    def drawn_row(self, chance, desk):
        words = desk.words
        deed = chance.choice(list(desk.forms))
        names = list(desk.kept) or ["f"]
        drawn = {"N": lambda: chance.choice(self.new_names),
                 "A": lambda: chance.choice(names),
                 "X": lambda: chance.choice(words or ["a"]),
                 "S": lambda: plain.set_shown(words, chance.randint(0, 2 ** len(words) - 1)),
                 "T": lambda: plain.family_shown(words, self.drawn_family(chance, len(words)))}
        parts = [deed] + [drawn[sign]() for sign in desk.forms[deed]]
        if chance.randint(0, 5) == 0:
            place = chance.randint(0, len(parts) - 1)
            parts[place] = chance.choice(["", "A", "d", "xx", "-", "none", parts[place] + "+", parts[place] + " ",
                                          parts[0], parts[-1], " " + parts[place], "abcdefghi"])
        if chance.randint(0, 30) == 0:
            parts.pop(chance.randint(0, len(parts) - 1))
        return " ".join(parts)

    def drawn_family(self, chance, many):
        wanted = chance.choice([0, 1, 2, 3, 5, 20])
        return sorted(chance.sample(plain.ground(many), min(wanted, 2 ** many)))

    def told(self, desk, row):
        try:
            return desk.say(row)
        except HitError as refusal:
            return type(refusal)

    def expected(self, plain_desk, row):
        answer = plain_desk.say(row)
        if type(answer) is str:
            return REFUSALS.get(answer, answer)
        # A family stands for the weights that are told of it.
        if plain_desk.many > 5:
            return TooMany
        return weights_shown(plain_desk.words, by_weights(plain_desk.many, answer))

    def test_drawn_rows(self):
        seen = {}
        for number, text in enumerate(GROUNDS):
            chance = Random(number + 2600)
            for turn in range(6):
                desk, plain_desk = Desk(text), plain.Desk(text)
                for step in range(150):
                    row = self.drawn_row(chance, plain_desk)
                    expected = self.expected(plain_desk, row)
                    self.assertEqual(self.told(desk, row), expected, (text, row))
                    form = expected.split(" ")[0] if type(expected) is str else expected.__name__
                    seen[(row.split(" ")[0], form)] = True
                for name, family in plain_desk.kept.items():
                    self.hold(desk, f"show {name}", plain.family_shown(plain_desk.words, family))
        for deed, forms in {"look": "misses spare least", "held": "each neither apart", "says": "yes no",
                            "compare": "alike heavier lighter apart NoText NoFamily", "ranks": "ranks apart NoFamily",
                            "weights": "weights trade TooMany NoFamily NoDeed", "let": "ok NoText NoDeed",
                            "hits": "ok NoText NoFamily NoDeed Full", "rests": "ok Full", "either": "ok Full",
                            "both": "ok Full", "in": "ok NoText NoFamily Full", "out": "ok NoText"}.items():
            for form in forms.split():
                self.assertTrue(seen.get((deed, form)), (deed, form))


class TestTheStages(DeskCase):
    """[3], over stages: the desk's answers are what the stages tell."""

    def families(self, many):
        drawn = list(plain.some_families(many, 16, many + 2700))
        return drawn + list(plain.vote_families(many, 8, many + 2800)) + [[], [0]]

    def test_what_is_kept(self):
        for text in GROUNDS:
            words = text.split()
            many = len(words)
            some = self.families(many)
            for one, other in zip(some, reversed(some)):
                desk = desk_with(text, [f"let f {show_family(words, one)}", f"let g {show_family(words, other)}"])
                made = {"hits": hits(many, one), "rests": rests(many, one), "either": either(one, other),
                        "both": both(one, other)}
                for deed, family in made.items():
                    desk.say(f"{deed} h f g" if deed in ("either", "both") else f"{deed} h f")
                    self.hold(desk, "show h", show_family(words, family))
                for k, word in enumerate(words):
                    desk.say(f"in h f {word}")
                    self.hold(desk, "show h", show_family(words, always_in(one, k)))
                    desk.say(f"out h f {word}")
                    self.hold(desk, "show h", show_family(words, always_out(one, k)))

    def test_what_is_asked_of_a_family(self):
        for text in GROUNDS:
            words = text.split()
            many = len(words)
            for family in self.families(many):
                desk = desk_with(text, [f"let f {show_family(words, family)}"])
                self.hold(desk, "turns f", " ".join(str(count) for count in turns(many, family)))
                self.hold(desk, "ranks f", self.ranks_shown(words, ranks(many, family)))
                for s in list(plain.ground(many))[::7]:
                    self.hold(desk, f"says f {show_set(words, s)}", "yes" if says(family, s) else "no")
                    self.hold(desk, f"look f {show_set(words, s)}", self.looked_shown(words, looked(family, s)))
                for x in range(many):
                    y = (x + 1) % many
                    if x != y:
                        told = compared(many, family, x, y)
                        self.hold(desk, f"compare f {words[x]} {words[y]}", self.with_sets(words, told))
                if many <= 5:
                    self.hold(desk, "weights f", weights_shown(words, by_weights(many, family)))

    def test_what_is_asked_of_two(self):
        for text in GROUNDS:
            words = text.split()
            many = len(words)
            for one, other in plain.pairs(many)[::40]:
                desk = desk_with(text, [f"let f {show_family(words, one)}", f"let g {show_family(words, other)}"])
                self.hold(desk, "held f g", self.with_sets(words, held(many, one, other)))

    def test_a_family_and_its_hits_are_each_others(self):
        for text in GROUNDS:
            words = text.split()
            for family in self.families(len(words)):
                desk = desk_with(text, [f"let f {show_family(words, family)}", "hits g f", "hits h g"])
                self.hold(desk, "held f g", "each")
                self.hold(desk, "held g f", "each")
                self.hold(desk, "show h", show_family(words, plain.least(family)))
                self.assertEqual(desk.say("turns g"), desk.say("turns f"))
                self.assertEqual(desk.say("ranks g"), desk.say("ranks f"))

    def with_sets(self, words, told):
        return " ".join([told[0]] + [show_set(words, one) for one in told[1:]])

    def looked_shown(self, words, told):
        if told[0] == "misses":
            return self.with_sets(words, told)
        if told[0] == "spare":
            return f"spare {words[told[1]]}"
        return "".join(["least"] + [f" {words[k]}:{show_set(words, other)}" for k, other in told[1]])

    def ranks_shown(self, words, told):
        if told[0] == "apart":
            return f"apart {words[told[1]]} {words[told[2]]}"
        return "".join(["ranks"] + [" " + "=".join(words[k] for k in some) for some in told[1]])


if __name__ == "__main__":
    unittest.main()
