"""Everything that the interface names is there, with its arguments."""

import importlib
import inspect
import unittest

FUNCTIONS = {
    "books": ["book_made(kind, rules)", "holds(book, evening)", "broken_rules(book, evening)", "beacons_of(book)",
              "is_void(kind, rule)", "left_behind(book, beacon, lit)"],
    "blends": ["blended(kind, evenings)", "exchanged(book)", "exchanged_evening(evening)"],
    "roads": ["contrary(saying)", "is_road(book, road)", "road_to(book, saying, other)"],
    "adding": ["added(book, places)", "reduced(book)"],
    "deriving": ["is_derivation(book, facts, places)", "derived(book, facts, places)", "derived_in_full(book, facts)"],
    "keeping": ["keeper_good(paper, book, hands, start)"],
    "storming": ["storm_good(paper, book, hands, start)"],
    "checking": ["good(paper, book, hands, start, hand)"],
    "playing": ["said(paper, book, hands, start, evening)"],
    "settlers": ["play_out(watch, keeper, storm)"],
    "eitherways": ["either_outcome(book, hands, start)"],
    "sumways": ["sum_outcome(book, hands, start)"],
    "ifways": ["if_outcome(book, hands, start)"],
    "outcomes": ["outcome(book, hands, start=0)"],
    "tables": ["table_told(kind, length, evenings)"],
    "pages": ["page_written(watch)", "page_read(text)"],
    "papertexts": ["paper_written(paper)", "paper_read(text)"],
    "desk": ["told(text)", "let_by(text, hand, written)"],
}
CLASSES = {
    "watches": {"Watch(book, hands)": ["turn()", "evening()", "left()", "winner()", "settle(lit)", "back()"]},
    "settlers": {"Settler(hand)": ["says(watch)", "sees(hand, lit)"], "Rowed(hand, row)": ["says(watch)", "sees(hand, lit)"],
                 "Papered(hand, paper, book, hands, start=0)": ["says(watch)", "sees(hand, lit)"]},
}
REFUSALS = ["NoBook", "NoHands", "Over", "NoLight", "NoneSettled", "NoTable", "NoPage", "NoPaper"]


def module(name):
    return importlib.import_module(f"duskbook.{name}")


class Interface(unittest.TestCase):
    def test_functions(self):
        for name, functions in FUNCTIONS.items():
            for written in functions:
                function = getattr(module(name), written.partition("(")[0])
                self.assertTrue(inspect.isfunction(function), written)
                self.assertEqual(function.__name__ + str(inspect.signature(function)), written)

    def test_classes_and_their_methods(self):
        for name, classes in CLASSES.items():
            for written, methods in classes.items():
                made = getattr(module(name), written.partition("(")[0])
                self.assertTrue(inspect.isclass(made), written)
                self.assertEqual(made.__name__ + str(inspect.signature(made)), written)
                for method in methods:
                    function = getattr(made, method.partition("(")[0])
                    told = str(inspect.signature(function)).replace("(self, ", "(").replace("(self)", "()")
                    self.assertEqual(function.__name__ + told, method)

    def test_settlers_stand_under_the_plain_one(self):
        settlers = module("settlers")
        for made in (settlers.Rowed, settlers.Papered):
            self.assertTrue(issubclass(made, settlers.Settler))

    def test_refusals(self):
        errors = module("errors")
        self.assertEqual(errors.DuskError.__bases__, (ValueError,))
        for name in REFUSALS:
            self.assertEqual(getattr(errors, name).__bases__, (errors.DuskError,), name)


if __name__ == "__main__":
    unittest.main()
