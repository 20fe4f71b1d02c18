"""The interface: each name in its file, with its arguments."""

import importlib
import inspect
import pathlib
import re
import unittest

PACKAGE = pathlib.Path(__file__).resolve().parent.parent / "countveil"

FUNCTIONS = {
    "plans": {"plan_wrong": ["thing"]},
    "records": {
        "record_wrong": ["plan", "thing"],
        "book_wrong": ["plan", "thing"],
        "gaps": ["plan", "record"],
        "fitting": ["plan", "book", "codes"],
        "tallies": ["plan", "book"],
    },
    "texts": {
        "plan_text": ["plan"],
        "record_text": ["plan", "record"],
        "book_text": ["plan", "book"],
        "read_plan": ["text"],
        "read_record": ["plan", "text"],
        "read_book": ["plan", "text"],
    },
    "rules": {"rules_wrong": ["plan", "thing"], "barred_by": ["plan", "rules", "record"]},
    "mends": {
        "mend": ["plan", "rules", "costs", "record"],
        "mend_judged": ["plan", "rules", "costs", "record", "thing"],
    },
    "donors": {
        "fillings": ["plan", "rules", "costs", "book"],
        "filled": ["plan", "rules", "costs", "book"],
        "fillings_judged": ["plan", "rules", "costs", "book", "thing"],
    },
    "weighing": {
        "known_wrong": ["plan", "thing"],
        "weights": ["plan", "book", "known"],
        "multipliers": ["plan", "book", "known"],
        "weights_judged": ["plan", "book", "known", "thing"],
        "weights_barred": ["plan", "book", "known"],
        "bar_judged": ["plan", "book", "known", "thing"],
    },
    "tables": {
        "table_wrong": ["thing"],
        "totals": ["table"],
        "turned_table": ["table"],
        "added": ["tables"],
        "put_together": ["table", "row_lots", "column_lots"],
    },
    "counting": {
        "table_of": ["plan", "book", "row", "column", "what"],
        "weighed_cells": ["plan", "book", "row", "column", "weights"],
        "layers": ["plan", "book", "layer", "row", "column", "what"],
    },
    "spans": {
        "sheet_wrong": ["thing"],
        "world_judged": ["sheet", "thing"],
        "span": ["sheet", "place"],
        "spans": ["sheet"],
        "span_paper": ["sheet", "place"],
        "span_judged": ["sheet", "place", "paper"],
    },
    "patterns": {
        "safe_wrong": ["sheet", "guards"],
        "safe_paper": ["sheet", "guards"],
        "safe_judged": ["sheet", "guards", "thing"],
        "pattern": ["cells", "guards"],
        "fewest": ["cells", "guards"],
    },
    "roundings": {
        "rounding_wrong": ["table", "base", "thing"],
        "nearest": ["table", "base"],
        "nearest_judged": ["table", "base", "thing"],
    },
    "releases": {
        "release_wrong": ["cells", "thing"],
        "fixed": ["cells", "release", "figure"],
        "fixed_judged": ["cells", "release", "figure", "thing"],
        "all_fixed": ["cells", "release", "figures"],
    },
    "revised": {
        "figure_of": ["plan", "book", "figure"],
        "history_wrong": ["plan", "thing"],
        "books_of": ["plan", "history"],
        "figures": ["plan", "history", "figure"],
        "split": ["plan", "history", "figure", "one", "other"],
        "roots": ["plan", "history", "many"],
    },
    "seasons": {
        "trend": ["series", "year"],
        "seasons": ["series", "year"],
        "adjusted": ["series", "year"],
        "left_over": ["series", "year"],
        "year_sums": ["series", "year"],
        "with_pattern": ["series", "year", "pattern"],
        "seasons_judged": ["series", "year", "thing"],
    },
    "markets": {
        "market_wrong": ["thing"],
        "number": ["market", "one", "other", "way"],
        "chained": ["market", "one", "other", "way"],
        "parts": ["market", "one", "other", "way"],
        "chained_parts": ["market", "one", "other", "way"],
    },
    "papertexts": {"paper_text": ["thing", "deep"], "read_paper": ["text", "deep"]},
}
CLASSES = {
    "houses": {
        "House": {
            "begin": ["title", "plan", "rules"],
            "end": ["title"],
            "take": ["title", "record"],
            "drop": ["title", "number"],
            "fix": ["title", "number", "place", "thing"],
            "mend": ["title", "number", "costs"],
            "publish": ["title", "one", "other", "least"],
            "back": [],
            "again": [],
            "deeds": ["rows", "on"],
            "titles": [],
            "plan_of": ["title"],
            "rules_of": ["title"],
            "book_of": ["title"],
            "faults": ["title"],
            "out": ["title"],
            "published": ["title"],
            "vintage": ["title"],
            "revised": ["title", "figure"],
            "log": [],
            "__len__": [],
        },
    },
    "desk": {"Desk": {"say": ["text"]}},
}
# Arguments that are handed in by their names alone, with what they are where they are left out.
NAMED = {"what": "count", "deep": 60, "on": False}
CONSTANTS = {
    "rules": {"MOST_RULES": 20},
    "tables": {"MOST_CELL": 10 ** 9},
    "releases": {"MOST_FINE": 36, "MOST_PUBLISHED": 40},
    "papertexts": {"MOST_DEEP": 60},
}


class Interface(unittest.TestCase):
    def look(self, function, arguments):
        """Look at the names of a function's arguments, and how they are handed in."""
        parameters = inspect.signature(function).parameters
        self.assertEqual(list(parameters), arguments, function)
        for parameter in parameters.values():
            named = parameter.name in NAMED
            kind = inspect.Parameter.KEYWORD_ONLY if named else inspect.Parameter.POSITIONAL_OR_KEYWORD
            self.assertEqual(parameter.kind, kind, function)
            default = NAMED.get(parameter.name, inspect.Parameter.empty)
            self.assertEqual((parameter.default.__class__, parameter.default), (default.__class__, default), function)

    def test_arguments(self):
        for name, functions in FUNCTIONS.items():
            module = importlib.import_module(f"countveil.{name}")
            for function, arguments in functions.items():
                self.look(getattr(module, function), arguments)

    def test_classes(self):
        for name, classes in CLASSES.items():
            module = importlib.import_module(f"countveil.{name}")
            text = (PACKAGE / f"{name}.py").read_text()
            for made, methods in classes.items():
                self.assertTrue(re.search(rf"^class {made}\b", text, re.MULTILINE), made)
                self.look(getattr(module, made), [])
                for method, arguments in methods.items():
                    self.assertIn(method, vars(getattr(module, made)))
                    self.look(getattr(getattr(module, made)(), method), arguments)

    def test_numbers(self):
        for name, constants in CONSTANTS.items():
            module = importlib.import_module(f"countveil.{name}")
            for constant, number in constants.items():
                self.assertEqual(repr(getattr(module, constant)), repr(number), constant)
                text = (PACKAGE / f"{name}.py").read_text()
                self.assertTrue(re.search(rf"^{constant} = ", text, re.MULTILINE), constant)

    def test_each_is_defined_in_its_file(self):
        for name, functions in FUNCTIONS.items():
            text = (PACKAGE / f"{name}.py").read_text()
            for function in functions:
                self.assertTrue(re.search(rf"^def {function}\(", text, re.MULTILINE), function)


if __name__ == "__main__":
    unittest.main()
