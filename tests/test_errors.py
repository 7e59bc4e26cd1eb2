"""Point 117: the errors."""

import copy
import inspect

from oddrounds import errors
from oddrounds.errors import RowError
from tests.checks import BIG, OTHER_VALUES, ExactCase

# The argument of each error, None if it has none.
ARGUMENTS = {
    "BadBatch": None,
    "BadLosses": None,
    "BadMarks": None,
    "BadRow": "error",
    "BadText": "index",
    "Busy": None,
    "NoIndex": "index",
    "NoKey": "value",
    "NoPlace": "value",
    "NoRounds": "value",
    "NoThreshold": "value",
    "NoVersion": "version",
    "NothingToUndo": None,
    "Rejected": "index",
    "TooLong": "limit",
    "TooMany": "limit",
    "TooManyActions": None,
    "TooSlow": "needed",
}


def error_class(name):
    return getattr(errors, name)


class ErrorClassesTest(ExactCase):
    def test_row_error_is_a_value_error(self):
        self.assertTrue(issubclass(RowError, ValueError))
        self.assertIsNot(RowError, ValueError)

    def test_all_others_are_direct_subclasses_of_row_error_only(self):
        for name in ARGUMENTS:
            with self.subTest(name):
                self.assertEqual(error_class(name).__bases__, (RowError,))

    def test_there_are_no_other_error_classes(self):
        classes = [name for name, value in vars(errors).items() if inspect.isclass(value)]
        self.assertEqual(sorted(classes), sorted([*ARGUMENTS, "RowError"]))

    def test_each_class_is_of_its_own(self):
        classes = [error_class(name) for name in ARGUMENTS]
        self.assertEqual([kind.__name__ for kind in classes], list(ARGUMENTS))
        self.assertEqual([kind.__module__ for kind in classes], ["oddrounds.errors"] * 18)

    def test_no_class_is_caught_as_another_one(self):
        for name in ARGUMENTS:
            for other in ARGUMENTS:
                caught = issubclass(error_class(name), error_class(other))
                self.assertIs(caught, name == other)


class ErrorArgumentsTest(ExactCase):
    def test_errors_without_arguments(self):
        for name in ARGUMENTS:
            if ARGUMENTS[name] is None:
                with self.subTest(name):
                    self.assert_exact(vars(error_class(name)()), {})
                    with self.assertRaises(TypeError):
                        error_class(name)(1)

    def test_errors_with_an_argument_need_exactly_one(self):
        for name in ARGUMENTS:
            if ARGUMENTS[name] is not None:
                with self.subTest(name):
                    with self.assertRaises(TypeError):
                        error_class(name)()
                    with self.assertRaises(TypeError):
                        error_class(name)(1, 2)

    def test_any_value_is_kept_unchanged(self):
        for name, attribute in ARGUMENTS.items():
            if attribute is None:
                continue
            for value in (*OTHER_VALUES, 0, 1, -1, BIG, -BIG, (2, "duplicate")):
                with self.subTest(name, value=value):
                    before = copy.deepcopy(value)
                    error = error_class(name)(value)
                    self.assertIs(getattr(error, attribute), value)
                    self.assert_exact(vars(error), {attribute: before})

    def test_the_argument_may_be_passed_by_its_name(self):
        for name, attribute in ARGUMENTS.items():
            if attribute is not None:
                error = error_class(name)(**{attribute: [5]})
                self.assert_exact(vars(error), {attribute: [5]})

    def test_errors_can_be_raised_and_caught_as_row_error(self):
        for name, attribute in ARGUMENTS.items():
            arguments = () if attribute is None else (9,)
            with self.assertRaises(RowError) as caught:
                raise error_class(name)(*arguments)
            self.assertIs(type(caught.exception), error_class(name))

    def test_two_errors_do_not_share_their_attributes(self):
        one = errors.NoKey(1)
        other = errors.NoKey(2)
        self.assert_exact([one.value, other.value], [1, 2])
