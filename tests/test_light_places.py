"""Point 12: the places of the light keys."""

from oddrounds.bounds import MAX_KEY
from oddrounds.errors import NoThreshold
from oddrounds.rows import light_places, thresholds
from tests.checks import BIG, MIXED_24, OTHER_VALUES, REVERSED_24, SAMPLE_ROWS, SORTED_24
from tests.checks import ExactCase, small_rows


class LightPlacesTest(ExactCase):
    def assert_no_threshold(self, row, value):
        self.assert_error(NoThreshold, {"value": value}, light_places, row, value)

    def test_examples(self):
        self.assert_exact(light_places((50, 10, 30), 30), (1, 2))
        self.assert_no_threshold((50, 10, 30), 50)

    def test_every_threshold_of_some_rows(self):
        self.assert_exact(light_places((50, 10, 30), 10), (1,))
        self.assert_exact(light_places((2, 1), 1), (1,))
        self.assert_exact(light_places((1, 2), 1), (0,))
        row = (5, 1, 4, 2, 3)
        results = [light_places(row, threshold) for threshold in (1, 2, 3, 4)]
        self.assert_exact(results, [(1,), (1, 3), (1, 3, 4), (1, 2, 3, 4)])

    def test_zero_and_one_are_thresholds_like_others(self):
        self.assert_exact(light_places((1, 0, 2), 0), (1,))
        self.assert_exact(light_places((1, 0, 2), 1), (0, 1))

    def test_long_rows(self):
        for many in range(1, 24):
            self.assert_exact(light_places(SORTED_24, many - 1), tuple(range(many)))
            last_places = tuple(range(24 - many, 24))
            self.assert_exact(light_places(REVERSED_24, many - 1), last_places)
        self.assert_exact(light_places(MIXED_24, 2 * 10 ** 10), (9, 14, 19))

    def test_light_keys_are_not_greater_than_the_threshold(self):
        for row in (*SAMPLE_ROWS, *small_rows()):
            for threshold in thresholds(row):
                places = tuple(p for p in range(len(row)) if not row[p] > threshold)
                self.assert_exact(light_places(row, threshold), places)

    def test_the_greatest_key_is_no_threshold(self):
        for row in (*SAMPLE_ROWS, *small_rows()):
            self.assert_no_threshold(row, max(row))

    def test_numbers_that_are_not_in_the_row(self):
        for value in (-1, 0, 9, 11, 29, 31, 51, MAX_KEY, MAX_KEY + 1, BIG, -BIG):
            self.assert_no_threshold((50, 10, 30), value)

    def test_values_of_other_kinds(self):
        for row in ((50, 10, 30), (1, 0, 2), (0,), (1,)):
            for value in OTHER_VALUES:
                self.assert_no_threshold(row, value)

    def test_the_error_has_the_very_value(self):
        for value in ([30], {"a": [30]}, ((30,), [])):
            with self.assertRaises(NoThreshold) as caught:
                light_places((50, 10, 30), value)
            self.assertIs(caught.exception.value, value)

    def test_keys_somewhat_beyond_the_limit_are_no_error(self):
        self.assert_exact(light_places((MAX_KEY + 2, MAX_KEY + 1), MAX_KEY + 1), (1,))
