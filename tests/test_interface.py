"""The interface: each name in its file, with its arguments."""

import importlib
import inspect
import pathlib
import re
import unittest

PACKAGE = pathlib.Path(__file__).resolve().parent.parent / "countveil"

FUNCTIONS = {
    "plans": {"plan_wrong": ["thing"]},
    "records": {
        "record_wrong": ["plan", "thing"],
        "book_wrong": ["plan", "thing"],
        "gaps": ["plan", "record"],
        "fitting": ["plan", "book", "codes"],
        "tallies": ["plan", "book"],
    },
    "texts": {
        "plan_text": ["plan"],
        "record_text": ["plan", "record"],
        "book_text": ["plan", "book"],
        "read_plan": ["text"],
        "read_record": ["plan", "text"],
        "read_book": ["plan", "text"],
    },
}


class Interface(unittest.TestCase):
    def test_arguments(self):
        for name, functions in FUNCTIONS.items():
            module = importlib.import_module(f"countveil.{name}")
            for function, arguments in functions.items():
                parameters = inspect.signature(getattr(module, function)).parameters
                self.assertEqual(list(parameters), arguments, function)
                for parameter in parameters.values():
                    self.assertEqual(parameter.kind, inspect.Parameter.POSITIONAL_OR_KEYWORD, function)
                    self.assertIs(parameter.default, inspect.Parameter.empty, function)

    def test_each_is_defined_in_its_file(self):
        for name, functions in FUNCTIONS.items():
            text = (PACKAGE / f"{name}.py").read_text()
            for function in functions:
                self.assertTrue(re.search(rf"^def {function}\(", text, re.MULTILINE), function)


if __name__ == "__main__":
    unittest.main()
