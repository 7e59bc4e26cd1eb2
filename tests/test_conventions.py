"""Point 3: arguments do not change, and equal calls give equal results."""

import copy

from oddrounds.errors import NoThreshold
from oddrounds.rows import inversions, is_key, is_row, light_places, mirror, ranks, row_error
from oddrounds.rows import thresholds
from tests.checks import BIG, OTHER_VALUES, SAMPLE_ROWS, ExactCase, exact

VALUE_FUNCTIONS = (is_key, is_row, row_error)
ROW_FUNCTIONS = (ranks, mirror, inversions, thresholds)
VALUES = (
    *OTHER_VALUES, *SAMPLE_ROWS, 0, BIG,
    ([1], {"a": 2}), [(1, 2), [3]], (1, [2], 3), {"row": (3, 1, 2)},
)


class ConventionsTest(ExactCase):
    def assert_steady(self, call, *arguments):
        """Check that a call changes no argument and gives the same again."""
        before = copy.deepcopy(arguments)
        first = call(*arguments)
        self.assert_exact(arguments, before)
        self.assert_exact(call(*arguments), first)
        self.assert_exact(call(*before), first)

    def test_functions_of_any_value(self):
        for call in VALUE_FUNCTIONS:
            for value in VALUES:
                self.assert_steady(call, value)

    def test_functions_of_a_row(self):
        for call in ROW_FUNCTIONS:
            for row in SAMPLE_ROWS:
                self.assert_steady(call, row)

    def test_light_places(self):
        for row in SAMPLE_ROWS:
            for threshold in thresholds(row):
                self.assert_steady(light_places, row, threshold)

    def test_a_rejected_value_does_not_change(self):
        for value in VALUES:
            if value != 0:
                before = exact(value)
                for attempt in range(2):
                    with self.assertRaises(NoThreshold) as caught:
                        light_places((0, 5), value)
                    self.assertEqual(exact(value), before)
                    self.assertEqual(exact(caught.exception.value), before)

    def test_a_call_after_an_error_is_as_before(self):
        row = (5, 1, 4, 2, 3)
        before = light_places(row, 2)
        with self.assertRaises(NoThreshold):
            light_places(row, [2])
        self.assert_exact(light_places(row, 2), before)

    def test_a_later_change_of_an_argument_has_no_effect(self):
        value = ([1], 2)
        error = row_error(value)
        value[0].append(2)
        self.assert_exact(error, (0, "key"))
