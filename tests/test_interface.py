"""The interface's names and arguments, as the document lists them."""

import unittest
from importlib import import_module
from inspect import signature

INTERFACE = {
    "sets": "is_many(thing) is_set(many,thing) names_in(one) set_of(names) holds(one,other) meets(one,other) "
            "rest(many,one)",
    "families": "is_family(many,thing) least(some) greatest(some) says(family,one) rests(many,family)",
    "hits": "hits(many,family) looked(family,one)",
    "duals": "held(many,one,other)",
    "papers": "is_good(many,one,other,paper) written(many,one,other)",
    "tables": "falls(many,table) yeses(many,table) noes(many,table) table_of(many,family) "
              "table_of_noes(many,family) noes_by(many,family) yeses_by(many,family)",
    "parts": "always_in(family,k) always_out(family,k) either(one,other) both(one,other) exchanged_set(order,one) "
             "exchanged(order,family)",
    "heavier": "compared(many,family,x,y) turns(many,family) ranks(many,family)",
    "votes": "weight_of(weights,one) voted(weights,bar) by_weights(many,family)",
    "texts": "read_names(text) show_set(words,one) show_family(words,family) read_set(words,text) "
             "read_family(words,text)",
    "desk": "Desk(text)",
}


class TestInterface(unittest.TestCase):
    def test_names_and_arguments(self):
        for name, listed in INTERFACE.items():
            module = import_module(f"allhits.{name}")
            for call in listed.split():
                asked, arguments = call.rstrip(")").split("(")
                found = getattr(module, asked)
                self.assertEqual(found.__module__, f"allhits.{name}", call)
                self.assertEqual(list(signature(found).parameters), arguments.split(","), call)

    def test_the_desk(self):
        desk = import_module("allhits.desk")
        self.assertIsInstance(desk.Desk, type)
        self.assertEqual(list(signature(desk.Desk("a b").say).parameters), ["row"])


if __name__ == "__main__":
    unittest.main()
