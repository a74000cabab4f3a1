"""The interface: its names, where they are defined, and their arguments."""

import ast
import importlib
import inspect
import unittest
from pathlib import Path

PACKAGE = Path(__file__).resolve().parent.parent / "roomprices"

FUNCTIONS = {
    "tables": {"fit": ["table", "rent", "giving", "prices"], "worth": ["table", "giving"]},
    "pricing": {"told": ["table", "rent", "giving"], "between": ["table", "rent", "giving", "room"]},
    "giving": {"settled": ["table", "rent"], "most": ["table"]},
}
CLASSES = {
    "errors": {name: {} for name in
               ("RoomError", "BadTable", "BadRent", "BadGiving", "BadPrices", "BadRoom", "NoPrices")},
    "answers": {
        "Answer": {},
        "Priced": {"__init__": ["self", "prices"], "shows": ["self", "table", "rent", "giving"]},
        "Ring": {"__init__": ["self", "people"], "shows": ["self", "table", "rent", "giving"]},
        "Settled": {"__init__": ["self", "rooms", "prices"], "shows": ["self", "table", "rent"]},
    },
}


def defined(file, kind):
    """What a file defines, by name, and not what it imports."""
    body = ast.parse((PACKAGE / f"{file}.py").read_text()).body
    return {part.name for part in body if isinstance(part, kind)}


class Interface(unittest.TestCase):
    def test_functions_stand_in_their_files_with_their_arguments(self):
        for file, functions in FUNCTIONS.items():
            module = importlib.import_module(f"roomprices.{file}")
            for name, arguments in functions.items():
                self.assertIn(name, defined(file, ast.FunctionDef))
                self.assertEqual(list(inspect.signature(getattr(module, name)).parameters), arguments)

    def test_classes_stand_in_their_files_with_their_own_methods(self):
        for file, classes in CLASSES.items():
            module = importlib.import_module(f"roomprices.{file}")
            for name, methods in classes.items():
                self.assertIn(name, defined(file, ast.ClassDef))
                for method, arguments in methods.items():
                    own = vars(getattr(module, name))[method]
                    self.assertEqual(list(inspect.signature(own).parameters), arguments)


if __name__ == "__main__":
    unittest.main()
