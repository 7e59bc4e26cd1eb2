"""Point 119: the package, its modules and its names."""

import ast
import importlib
import inspect
import pathlib
import unittest

FOLDER = pathlib.Path(__file__).parent.parent / "oddrounds"

# The functions of each module with their parameters.
FUNCTIONS = {
    "rows": {
        "is_key": ["value"],
        "is_row": ["value"],
        "row_error": ["value"],
        "ranks": ["row"],
        "mirror": ["row"],
        "inversions": ["row"],
        "thresholds": ["row"],
        "light_places": ["row", "threshold"],
    },
    "rounds": {
        "compared_places": ["n", "start", "number"],
        "exchanged_places": ["row", "start", "number"],
        "after_round": ["row", "start", "number"],
        "after_rounds": ["row", "start", "rounds"],
        "history": ["row", "start", "rounds"],
        "count_exchanges": ["row", "start", "rounds"],
    },
    "delays": {
        "waits": ["row", "start", "threshold"],
        "delays": ["row", "start", "threshold"],
        "arrivals": ["row", "start", "threshold"],
        "threshold_rounds": ["row", "start", "threshold"],
        "needed_rounds": ["row", "start"],
        "threshold_table": ["row", "start"],
        "better_start": ["row"],
        "travel_bound": ["row"],
        "critical_keys": ["row", "start"],
        "late_keys": ["row", "start", "rounds"],
        "certificate": ["row", "start", "rounds"],
        "certificate_holds": ["row", "start", "rounds", "value"],
        "is_within": ["one", "other"],
        "exchange_path": ["one", "other"],
        "exchange_path_holds": ["one", "other", "value"],
    },
    "places": {
        "place_after": ["row", "start", "key", "rounds"],
        "row_after": ["row", "start", "rounds"],
        "path_of": ["row", "start", "key"],
        "last_move": ["row", "start", "key"],
        "moves_of": ["row", "start", "key"],
        "exchange_round": ["row", "start", "one", "other"],
    },
    "patterns": {
        "is_pattern": ["value"],
        "pattern_of": ["row", "threshold"],
        "light_total": ["pattern"],
        "pattern_rounds": ["pattern", "start"],
        "light_place": ["pattern", "start", "index", "rounds"],
        "light_arrival": ["pattern", "start", "index"],
        "light_before": ["pattern", "start", "place", "rounds"],
        "pattern_after": ["pattern", "start", "rounds"],
    },
    "counting": {
        "is_marks": ["value"],
        "marks_of": ["row", "threshold"],
        "marks_after": ["marks", "start", "rounds"],
        "marks_rounds": ["marks", "start"],
        "most_marks_rounds": ["n", "lights", "start"],
        "light_limits": ["n", "lights", "start", "rounds"],
        "count_marks": ["n", "lights", "start", "rounds"],
        "marks_at": ["n", "lights", "start", "rounds", "index"],
        "marks_index": ["value", "start", "rounds"],
        "next_marks": ["value", "start", "rounds"],
        "count_rows": ["n", "start", "rounds"],
        "row_at": ["n", "start", "rounds", "index"],
        "row_number": ["row", "start", "rounds"],
        "rows_within": ["n", "start", "rounds"],
        "rounds_counts": ["n", "start"],
        "most_rounds": ["n", "start"],
    },
    "origins": {
        "first_disorder": ["row", "start", "number"],
        "count_origins": ["row", "start", "number"],
        "origins_of": ["row", "start", "number"],
        "origin_at": ["row", "start", "number", "index"],
        "origin_index": ["row", "start", "number", "value"],
        "count_early_rows": ["row", "start", "rounds"],
        "early_rows": ["row", "start", "rounds"],
        "greatest_age": ["row", "start"],
    },
    "losses": {
        "are_losses": ["row", "start", "value"],
        "round_losses": ["row", "start", "number"],
        "run_with_losses": ["row", "start", "losses", "rounds"],
        "needed_with_losses": ["row", "start", "losses"],
        "idle_pairs": ["row", "start", "rounds"],
        "harmful_losses": ["row", "start"],
        "first_lag": ["one", "other"],
    },
    "ties": {
        "is_tied_row": ["value"],
        "standard_form": ["row"],
        "tied_after_rounds": ["row", "start", "rounds"],
        "item_origins": ["row", "start", "rounds"],
        "tied_inversions": ["row"],
        "tied_delays": ["row", "start", "threshold"],
        "tied_needed_rounds": ["row", "start"],
        "tied_certificate": ["row", "start", "rounds"],
        "tied_certificate_holds": ["row", "start", "rounds", "value"],
    },
    "texts": {
        "row_text": ["row"],
        "parse_row": ["value"],
        "start_text": ["row", "start"],
        "parse_start": ["value"],
        "certificate_text": ["certificate"],
        "parse_certificate": ["value"],
    },
}

CLASSES = {
    "errors": (
        "RowError", "BadBatch", "BadLosses", "BadMarks", "BadRow", "BadText", "Busy", "NoIndex",
        "NoKey", "NoPlace", "NoRounds", "NoThreshold", "NoVersion", "NothingToUndo", "Rejected",
        "TooLong", "TooMany", "TooManyActions", "TooSlow",
    ),
    "runners": ("Runner",),
    "shells": ("Shell",),
}

# The methods of each class with their parameters, those that are passed by keyword with their default.
METHODS = {
    ("runners", "Runner"): {
        "__init__": (["row", "start"], {}),
        "step": ([], {}),
        "steps": (["count"], {}),
        "lose": (["place"], {}),
        "undo": ([], {}),
        "row": ([], {"version": None}),
        "rounds": ([], {"version": None}),
        "exchanges": ([], {"version": None}),
        "lost": ([], {"version": None}),
        "compared": ([], {}),
        "remaining": ([], {}),
        "actions": ([], {}),
        "apply": (["batch"], {"on_step": None}),
        "copy": ([], {}),
        "__len__": ([], {}),
        "__eq__": (["other"], {}),
        "__str__": ([], {}),
    },
    ("shells", "Shell"): {
        "__init__": (["runner"], {}),
        "execute": (["value"], {}),
        "transcript": ([], {}),
    },
}


def defined_names(module, kind):
    """Return the names that a file of the package defines at its top level."""
    tree = ast.parse((FOLDER / f"{module}.py").read_text())
    return [node.name for node in tree.body if isinstance(node, kind)]


class InterfaceTest(unittest.TestCase):
    def test_the_package_has_an_init_file(self):
        self.assertTrue((FOLDER / "__init__.py").is_file())

    def test_modules_can_be_imported(self):
        for module in ("errors", "bounds", "runners", "shells", *FUNCTIONS):
            importlib.import_module(f"oddrounds.{module}")

    def test_functions_are_defined_in_their_file(self):
        for module, functions in FUNCTIONS.items():
            names = defined_names(module, ast.FunctionDef)
            for name in functions:
                self.assertIn(name, names)

    def test_functions_take_the_listed_parameters_by_position(self):
        for module, functions in FUNCTIONS.items():
            for name, expected in functions.items():
                call = getattr(importlib.import_module(f"oddrounds.{module}"), name)
                parameters = inspect.signature(call).parameters
                self.assertEqual(list(parameters), expected)
                for parameter in parameters.values():
                    self.assertIs(parameter.kind, inspect.Parameter.POSITIONAL_OR_KEYWORD)
                    self.assertIs(parameter.default, inspect.Parameter.empty)

    def test_classes_are_defined_in_their_file(self):
        for module, classes in CLASSES.items():
            names = defined_names(module, ast.ClassDef)
            for name in classes:
                self.assertIn(name, names)

    def test_methods_are_defined_in_their_class_and_take_the_listed_parameters(self):
        for (module, name), methods in METHODS.items():
            kind = getattr(importlib.import_module(f"oddrounds.{module}"), name)
            for method, (positional, by_keyword) in methods.items():
                self.assertIn(method, vars(kind))
                parameters = list(inspect.signature(vars(kind)[method]).parameters.values())[1:]
                plain = [p for p in parameters if p.kind is inspect.Parameter.POSITIONAL_OR_KEYWORD]
                named = [p for p in parameters if p.kind is inspect.Parameter.KEYWORD_ONLY]
                self.assertEqual(len(plain) + len(named), len(parameters))
                self.assertEqual([p.name for p in plain], positional)
                self.assertTrue(all(p.default is inspect.Parameter.empty for p in plain))
                self.assertEqual({p.name: p.default for p in named}, by_keyword)
