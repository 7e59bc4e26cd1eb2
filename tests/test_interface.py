"""Point 119: the package, its modules and its names."""

import ast
import importlib
import inspect
import pathlib
import unittest

FOLDER = pathlib.Path(__file__).parent.parent / "oddrounds"

# The functions of each module with their parameters.
FUNCTIONS = {
    "rows": {
        "is_key": ["value"],
        "is_row": ["value"],
        "row_error": ["value"],
        "ranks": ["row"],
        "mirror": ["row"],
        "inversions": ["row"],
        "thresholds": ["row"],
        "light_places": ["row", "threshold"],
    },
}

CLASSES = {
    "errors": (
        "RowError", "BadBatch", "BadLosses", "BadMarks", "BadRow", "BadText", "Busy", "NoIndex",
        "NoKey", "NoPlace", "NoRounds", "NoThreshold", "NoVersion", "NothingToUndo", "Rejected",
        "TooLong", "TooMany", "TooManyActions", "TooSlow",
    ),
}


def defined_names(module, kind):
    """Return the names that a file of the package defines at its top level."""
    tree = ast.parse((FOLDER / f"{module}.py").read_text())
    return [node.name for node in tree.body if isinstance(node, kind)]


class InterfaceTest(unittest.TestCase):
    def test_the_package_has_an_init_file(self):
        self.assertTrue((FOLDER / "__init__.py").is_file())

    def test_modules_can_be_imported(self):
        for module in ("errors", "bounds", "rows"):
            importlib.import_module(f"oddrounds.{module}")

    def test_functions_are_defined_in_their_file(self):
        for module, functions in FUNCTIONS.items():
            names = defined_names(module, ast.FunctionDef)
            for name in functions:
                self.assertIn(name, names)

    def test_functions_take_the_listed_parameters_by_position(self):
        for module, functions in FUNCTIONS.items():
            for name, expected in functions.items():
                call = getattr(importlib.import_module(f"oddrounds.{module}"), name)
                parameters = inspect.signature(call).parameters
                self.assertEqual(list(parameters), expected)
                for parameter in parameters.values():
                    self.assertIs(parameter.kind, inspect.Parameter.POSITIONAL_OR_KEYWORD)
                    self.assertIs(parameter.default, inspect.Parameter.empty)

    def test_classes_are_defined_in_their_file(self):
        for module, classes in CLASSES.items():
            names = defined_names(module, ast.ClassDef)
            for name in classes:
                self.assertIn(name, names)
