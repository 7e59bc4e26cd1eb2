"""Points 20 to 30: waits, delays, arrivals and the needed rounds."""

from oddrounds.bounds import MAX_KEY
from oddrounds.delays import arrivals, better_start, critical_keys, delays, late_keys
from oddrounds.delays import needed_rounds, threshold_rounds, threshold_table, travel_bound, waits
from oddrounds.errors import NoThreshold
from oddrounds.rows import mirror, thresholds
from tests.checks import BIG, OTHER_VALUES, REVERSED_24, SAMPLE_ROWS, SORTED_24, ExactCase, small_rows
from tests.running import defined_delays, defined_late, defined_wait, heaviness, last_change
from tests.running import run_needed, run_rows, zeros

ALL_ROWS = (*SAMPLE_ROWS, *small_rows())
ALL_STARTS = tuple((row, start) for row in ALL_ROWS for start in (0, 1))
ALL_THRESHOLDS = tuple(
    (row, start, threshold) for row, start in ALL_STARTS for threshold in sorted(row)[:-1]
)
ROW = (5, 1, 4, 2, 3)


class ThresholdsTest(ExactCase):
    def test_example_of_waits(self):
        self.assert_exact(waits(ROW, 0, 2), (0, 0))
        self.assert_error(NoThreshold, {"value": 5}, waits, ROW, 0, 5)

    def test_example_of_delays(self):
        results = [delays(ROW, 0, 2), delays((1, 3, 2), 0, 2)]
        self.assert_exact(results, [(2, 2), (None, 2)])

    def test_example_of_arrivals(self):
        results = [arrivals(ROW, 0, 2), arrivals((3, 1, 2), 1, 2)]
        self.assert_exact(results, [(1, 2), (2, 3)])

    def test_example_of_threshold_rounds(self):
        results = [threshold_rounds(ROW, 0, 2), threshold_rounds((1, 3, 2), 0, 1)]
        self.assert_exact(results, [2, 0])

    def test_a_light_key_at_place_0_never_waits(self):
        for start in (0, 1):
            self.assert_exact(waits((1, 2), start, 1), (0,))
        self.assert_exact([waits((1, 0, 2), 0, 1), waits((1, 0, 2), 1, 1)], [(0, 0), (0, 1)])

    def test_waits_against_their_definition(self):
        for row, start, threshold in ALL_THRESHOLDS:
            places = zeros(heaviness(row, threshold))
            expected = tuple(defined_wait(len(row), start, place) for place in places)
            self.assert_exact(waits(row, start, threshold), expected)

    def test_delays_against_their_definition(self):
        for row, start, threshold in ALL_THRESHOLDS:
            expected = tuple(delay for place, delay in defined_delays(row, start, threshold))
            self.assert_exact(delays(row, start, threshold), expected)

    def test_arrivals_against_running(self):
        for row, start, threshold in ALL_THRESHOLDS:
            rows = run_rows(heaviness(row, threshold), start, len(row) + 2)
            # Light keys do not pass each other, so the j-th one stays the j-th one.
            paths = zip(*[zeros(marks) for marks in rows])
            expected = tuple(last_change(path) for path in paths)
            self.assert_exact(arrivals(row, start, threshold), expected)

    def test_threshold_rounds_against_running(self):
        for row, start, threshold in ALL_THRESHOLDS:
            expected = run_needed(heaviness(row, threshold), start)
            self.assert_exact(threshold_rounds(row, start, threshold), expected)

    def test_a_sorted_row_has_no_delays(self):
        for start in (0, 1):
            for many in range(1, 24):
                self.assert_exact(delays(SORTED_24, start, many - 1), (None,) * many)
                self.assert_exact(arrivals(SORTED_24, start, many - 1), (0,) * many)
                self.assert_exact(threshold_rounds(SORTED_24, start, many - 1), 0)


class NoThresholdTest(ExactCase):
    def assert_no_threshold(self, row, value):
        for call in (waits, delays, arrivals, threshold_rounds):
            for start in (0, 1):
                self.assert_error(NoThreshold, {"value": value}, call, row, start, value)

    def test_the_greatest_key(self):
        for row in ALL_ROWS:
            self.assert_no_threshold(row, max(row))

    def test_numbers_that_are_not_in_the_row(self):
        for value in (-1, 0, 6, 9, 24, MAX_KEY, MAX_KEY + 1, BIG, -BIG):
            self.assert_no_threshold(ROW, value)

    def test_values_of_other_kinds(self):
        for row in (ROW, (1, 0, 2), (0,), (1,)):
            for value in (*OTHER_VALUES, "2", (2,), [2], {"2": 2}):
                self.assert_no_threshold(row, value)

    def test_the_error_has_the_very_value(self):
        for call in (waits, delays, arrivals, threshold_rounds):
            for value in ([2], {"a": [2]}, ((2,), [])):
                with self.assertRaises(NoThreshold) as caught:
                    call(ROW, 0, value)
                self.assertIs(caught.exception.value, value)


class NeededRoundsTest(ExactCase):
    def test_example_of_needed_rounds(self):
        results = [needed_rounds((3, 1, 2), 0), needed_rounds((3, 1, 2), 1), needed_rounds((7,), 0)]
        self.assert_exact(results, [2, 3, 0])

    def test_example_of_threshold_table(self):
        self.assert_exact(threshold_table((3, 1, 2), 0), ((1, 1), (2, 2)))

    def test_example_of_better_start(self):
        results = [better_start((3, 1, 2)), better_start((1, 3, 2)), better_start((1, 2))]
        self.assert_exact(results, [(0, 2), (1, 1), (0, 0)])

    def test_example_of_travel_bound(self):
        self.assert_exact([travel_bound((3, 1, 2)), travel_bound((7,))], [2, 0])

    def test_needed_rounds_against_running(self):
        for row, start in ALL_STARTS:
            self.assert_exact(needed_rounds(row, start), run_needed(row, start))

    def test_needed_rounds_of_special_rows(self):
        for start in (0, 1):
            self.assert_exact(needed_rounds((7,), start), 0)
            self.assert_exact(needed_rounds(SORTED_24, start), 0)
            self.assert_exact(needed_rounds(REVERSED_24, start), 24)
        self.assert_exact([needed_rounds((2, 1), 0), needed_rounds((2, 1), 1)], [1, 2])

    def test_the_mirrored_row_needs_as_many_rounds(self):
        for row, start in ALL_STARTS:
            other = start if len(row) % 2 == 0 else 1 - start
            self.assert_exact(needed_rounds(mirror(row), other), needed_rounds(row, start))

    def test_threshold_table(self):
        for row, start in ALL_STARTS:
            expected = tuple(
                (threshold, run_needed(heaviness(row, threshold), start)) for threshold in thresholds(row)
            )
            self.assert_exact(threshold_table(row, start), expected)
        self.assert_exact(threshold_table((7,), 1), ())

    def test_better_start_against_running(self):
        for row in ALL_ROWS:
            needed = [run_needed(row, 0), run_needed(row, 1)]
            start = 1 if needed[1] < needed[0] else 0
            self.assert_exact(better_start(row), (start, needed[start]))
            self.assertLessEqual(abs(needed[0] - needed[1]), 1)

    def test_travel_bound_against_its_definition(self):
        for row in ALL_ROWS:
            goal = sorted(row)
            expected = max([abs(row.index(key) - goal.index(key)) for key in row])
            self.assert_exact(travel_bound(row), expected)
            for start in (0, 1):
                self.assertLessEqual(expected, run_needed(row, start))

    def test_travel_bound_in_both_directions(self):
        self.assert_exact([travel_bound((4, 1, 2, 3)), travel_bound((2, 3, 4, 1))], [3, 3])
        self.assert_exact([travel_bound(SORTED_24), travel_bound(REVERSED_24)], [0, 23])


class LateKeysTest(ExactCase):
    def test_example_of_critical_keys(self):
        self.assert_exact(critical_keys((3, 1, 2), 0), ((2, 1), (2, 2)))

    def test_example_of_late_keys(self):
        results = [late_keys((3, 1, 2), 0, 0), late_keys((3, 1, 2), 0, 2)]
        self.assert_exact(results, [((1, 1), (2, 1), (2, 2)), ()])

    def test_late_keys_against_their_definition(self):
        for row, start in ALL_STARTS:
            for rounds in (*range(len(row) + 2), 100):
                self.assert_exact(late_keys(row, start, rounds), defined_late(row, start, rounds))

    def test_late_keys_are_there_as_long_as_the_row_is_not_sorted(self):
        for row, start in ALL_STARTS:
            needed = run_needed(row, start)
            for rounds in range(len(row) + 2):
                self.assertIs(late_keys(row, start, rounds) == (), rounds >= needed)

    def test_critical_keys_against_their_definition(self):
        for row, start in ALL_STARTS:
            needed = run_needed(row, start)
            expected = tuple(
                (threshold, place) for threshold in thresholds(row)
                for place, delay in defined_delays(row, start, threshold) if delay == needed
            )
            self.assert_exact(critical_keys(row, start), expected)
            self.assertIs(expected == (), needed == 0)

    def test_sorted_rows_have_none(self):
        for row in ((7,), (1, 2), SORTED_24):
            for start in (0, 1):
                self.assert_exact(critical_keys(row, start), ())
                self.assert_exact(late_keys(row, start, 0), ())
