"""The interface: names, arguments, and the files in which they are defined."""

import ast
import inspect
import unittest
from importlib import import_module
from pathlib import Path

PACKAGE = Path(__file__).resolve().parent.parent / "stillspans"

FUNCTIONS = {
    "spans": ("low(p, rows)", "is_low(p, thing)", "has(p, form, row)", "shares(p, form, row)",
              "together(p, one, other)", "crossing(p, one, other)", "across(p, length, form)"),
    "polys": ("is_poly(p, thing)", "poly_sum(p, one, other)", "poly_times(p, one, other)",
              "common(p, one, other)", "parted(p, one, other)", "is_bare(p, poly)",
              "bare_parts(p, poly)"),
    "tables": ("led(p, row, table)", "product(p, one, other)", "table_sum(p, one, other)",
               "multiple(p, rest, table)", "turned(table)", "plain(size)", "rank(p, table)",
               "image(p, table)", "to_nought(p, table)", "contrary(p, table)",
               "put_on(p, poly, table)", "least(p, table)", "least_of(p, table, row)"),
    "crews": ("is_crew(thing)", "turned_crew(crew)", "worths(crew, word)"),
    "spins": ("is_still(crew, form)", "spin(crew, rows)", "spun(crew, row)"),
    "looker": ("look(crew, paper)",),
    "tight": ("still_span(crew)", "is_tight(crew)", "paper(crew)"),
    "along": ("goes_along(one, other, thing)", "base(one, other)", "alike_tight(one, other)",
              "field_degree(crew)"),
    "several": ("changed(crew, table)", "beside(one, other)", "multiplied(one, other)"),
    "towers": ("part(crew, lower, upper)", "tower(crew)", "is_tower(crew, thing)",
               "pairing(crew, one, other)"),
    "closing": ("closing(crew)", "vanishing(crew)", "vanishing_power(crew)", "bottom(crew)",
                "parts_wholly(crew)"),
    "parting": ("parting(crew)", "falls_apart(crew)", "alike(one, other)"),
    "texts": ("crew_text(crew)", "word_text(word)", "read_crew(text)", "read_word(text)"),
}

CLASSES = {
    "errors": ("SpanError", "NoPart", "NoWord", "NoPaper", "NoTower", "NoPair", "NotTight",
               "TooMuch", "NoText", "NoRow", "NoName"),
    "desk": ("Desk",),
}


def defined(file, kind):
    """The names that a file of the package defines at module level."""
    tree = ast.parse((PACKAGE / f"{file}.py").read_text(encoding="utf-8"))
    return [node.name for node in tree.body if isinstance(node, kind)]


class Interface(unittest.TestCase):
    def test_functions(self):
        for file, listed in FUNCTIONS.items():
            module = import_module(f"stillspans.{file}")
            for told in listed:
                name = told.split("(")[0]
                with self.subTest(function=told):
                    self.assertIn(name, defined(file, ast.FunctionDef))
                    self.assertEqual(name + str(inspect.signature(getattr(module, name))), told)

    def test_classes(self):
        for file, listed in CLASSES.items():
            for name in listed:
                with self.subTest(name=name):
                    self.assertIn(name, defined(file, ast.ClassDef))

    def test_the_desk(self):
        desk = import_module("stillspans.desk").Desk
        self.assertIn("say", vars(desk))
        self.assertEqual(str(inspect.signature(desk)), "()")
        self.assertEqual(str(inspect.signature(desk.say)), "(self, text)")


if __name__ == "__main__":
    unittest.main()
