"""Point 3: arguments do not change, and equal calls give equal results."""

import copy

from oddrounds.counting import count_marks, count_rows, is_marks, light_limits, marks_after, marks_at
from oddrounds.counting import marks_index, marks_of, marks_rounds, most_marks_rounds, most_rounds
from oddrounds.counting import next_marks, row_at, row_number, rounds_counts, rows_within
from oddrounds.delays import arrivals, better_start, certificate, certificate_holds, critical_keys
from oddrounds.delays import delays, exchange_path, exchange_path_holds, is_within, late_keys
from oddrounds.delays import needed_rounds, threshold_rounds, threshold_table, travel_bound, waits
from oddrounds.errors import BadLosses, BadMarks, BadRow, BadText, NoIndex, NoKey, NoPlace, NoRounds
from oddrounds.errors import NoThreshold, NoVersion
from oddrounds.losses import are_losses, first_lag, harmful_losses, idle_pairs, needed_with_losses
from oddrounds.losses import round_losses, run_with_losses
from oddrounds.origins import count_early_rows, count_origins, early_rows, first_disorder, greatest_age
from oddrounds.origins import origin_at, origin_index, origins_of
from oddrounds.patterns import is_pattern, light_arrival, light_before, light_place, light_total
from oddrounds.patterns import pattern_after, pattern_of, pattern_rounds
from oddrounds.places import exchange_round, last_move, moves_of, path_of, place_after, row_after
from oddrounds.rounds import after_round, after_rounds, compared_places, count_exchanges
from oddrounds.rounds import exchanged_places, history
from oddrounds.rows import inversions, is_key, is_row, light_places, mirror, ranks, row_error
from oddrounds.rows import thresholds
from oddrounds.runners import Runner
from oddrounds.shells import Shell
from oddrounds.texts import certificate_text, parse_certificate, parse_row, parse_start, row_text
from oddrounds.texts import start_text
from oddrounds.ties import is_tied_row, item_origins, standard_form, tied_after_rounds, tied_certificate
from oddrounds.ties import tied_certificate_holds, tied_delays, tied_inversions, tied_needed_rounds
from tests.checks import BIG, OTHER_VALUES, SAMPLE_ROWS, ExactCase, exact

VALUE_FUNCTIONS = (is_key, is_row, row_error, is_pattern, is_marks, is_tied_row)
ROW_FUNCTIONS = (
    ranks, mirror, inversions, thresholds, better_start, travel_bound, standard_form, tied_inversions,
    row_text,
)
START_FUNCTIONS = (
    needed_rounds, threshold_table, critical_keys, harmful_losses, tied_needed_rounds, start_text,
)
ROUNDS_FUNCTIONS = (
    exchanged_places, after_round, after_rounds, history, count_exchanges, late_keys, certificate,
    row_after, first_disorder, count_origins, round_losses, idle_pairs, tied_after_rounds, item_origins,
    tied_certificate,
)
THRESHOLD_FUNCTIONS = (waits, delays, arrivals, threshold_rounds, tied_delays)
KEY_FUNCTIONS = (path_of, last_move, moves_of)
PATTERNS = ((1, 2), (0, 2, 1), (7,), (3, 1, 4, 1, 5), (0, 10 ** 11, 2, 3))
VALUES = (
    *OTHER_VALUES, *SAMPLE_ROWS, 0, BIG, ("sorted",), ["sorted"], ("late", 1, 2), ("late", [1], 2),
    ([1], {"a": 2}), [(1, 2), [3]], (1, [2], 3), {"row": (3, 1, 2)}, ((2, 1), (1, 2)),
    ([2, 1], (1, 2)), ((2, 1), {"a": [1]}),
)
# No value of VALUES but 0 is a key of this row, an index or a place of this pattern.
ROW = (0, 5)
PATTERN = (0, 1)
# Each call passes one value, with the error that it raises for all values but 0.
REJECTING_CALLS = (
    (NoThreshold, lambda value: light_places(ROW, value)),
    (NoThreshold, lambda value: waits(ROW, 0, value)),
    (NoThreshold, lambda value: delays(ROW, 0, value)),
    (NoThreshold, lambda value: arrivals(ROW, 0, value)),
    (NoThreshold, lambda value: threshold_rounds(ROW, 0, value)),
    (NoThreshold, lambda value: pattern_of(ROW, value)),
    (NoKey, lambda value: place_after(ROW, 0, value, 1)),
    (NoKey, lambda value: path_of(ROW, 0, value)),
    (NoKey, lambda value: last_move(ROW, 0, value)),
    (NoKey, lambda value: moves_of(ROW, 0, value)),
    (NoKey, lambda value: exchange_round(ROW, 0, value, 5)),
    (NoKey, lambda value: exchange_round(ROW, 0, 5, value)),
    (NoIndex, lambda value: light_place(PATTERN, 0, value, 1)),
    (NoIndex, lambda value: light_arrival(PATTERN, 0, value)),
    (NoPlace, lambda value: light_before(PATTERN, 0, value, 1)),
    (NoThreshold, lambda value: marks_of(ROW, value)),
    (NoIndex, lambda value: marks_at(1, 1, 0, 0, value)),
    (NoIndex, lambda value: row_at(1, 0, 0, value)),
    (NoIndex, lambda value: origin_at((0,), 0, 1, value)),
    (NoThreshold, lambda value: tied_delays((0, 5, 0), 0, value)),
    (NoPlace, lambda value: Runner((2, 1), 0).lose(value)),
)
# Errors without the value, for all values of VALUES but those in the tuple.
PLAIN_CALLS = (
    (BadMarks, (), lambda value: marks_index(value, 0, 1)),
    (BadMarks, (), lambda value: next_marks(value, 0, 1)),
    (BadLosses, ((),), lambda value: run_with_losses(ROW, 0, value, 1)),
    (BadLosses, ((),), lambda value: needed_with_losses(ROW, 0, value)),
)


class ConventionsTest(ExactCase):
    def assert_steady(self, call, *arguments):
        """Check that a call changes no argument and gives the same again."""
        before = copy.deepcopy(arguments)
        first = call(*arguments)
        self.assert_exact(arguments, before)
        self.assert_exact(call(*arguments), first)
        self.assert_exact(call(*before), first)

    def test_functions_of_any_value(self):
        for call in VALUE_FUNCTIONS:
            for value in VALUES:
                self.assert_steady(call, value)

    def test_checking_functions_of_any_value(self):
        for value in VALUES:
            for rounds in (0, 1, 2):
                self.assert_steady(certificate_holds, (3, 1, 2), 0, rounds, value)
            self.assert_steady(exchange_path_holds, (1, 2), (2, 1), value)
            self.assert_steady(are_losses, (3, 1, 2), 0, value)
            self.assert_steady(tied_certificate_holds, (3, 1, 3), 0, 1, value)
            self.assert_steady(origin_index, (1, 3, 2), 0, 1, value)

    def test_functions_of_a_row(self):
        for row in SAMPLE_ROWS:
            for call in ROW_FUNCTIONS:
                self.assert_steady(call, row)
            for start in (0, 1):
                for call in START_FUNCTIONS:
                    self.assert_steady(call, row, start)
                for call in ROUNDS_FUNCTIONS:
                    self.assert_steady(call, row, start, 1)
                    self.assert_steady(call, row, start, 100)

    def test_functions_of_a_threshold(self):
        for row in SAMPLE_ROWS:
            for threshold in thresholds(row):
                self.assert_steady(light_places, row, threshold)
                self.assert_steady(marks_of, row, threshold)
                for call in THRESHOLD_FUNCTIONS:
                    self.assert_steady(call, row, 0, threshold)
        self.assert_steady(pattern_of, (5, 1, 4, 2), 2)

    def test_functions_of_a_key(self):
        for row in SAMPLE_ROWS:
            for key in (min(row), max(row)):
                for call in KEY_FUNCTIONS:
                    self.assert_steady(call, row, 0, key)
                self.assert_steady(place_after, row, 0, key, 3)
                self.assert_steady(exchange_round, row, 0, key, row[0])

    def test_functions_of_two_rows(self):
        for row in SAMPLE_ROWS:
            for call in (is_within, exchange_path, first_lag):
                self.assert_steady(call, mirror(row), row)
                self.assert_steady(call, tuple(sorted(row)), row)

    def test_functions_of_a_pattern(self):
        for pattern in PATTERNS:
            self.assert_steady(light_total, pattern)
            for start in (0, 1):
                self.assert_steady(pattern_rounds, pattern, start)
                self.assert_steady(pattern_after, pattern, start, 2)
                self.assert_steady(light_before, pattern, start, 1, 2)
                if light_total(pattern) > 0:
                    self.assert_steady(light_place, pattern, start, 0, 2)
                    self.assert_steady(light_arrival, pattern, start, 0)

    def test_functions_of_a_number_of_places(self):
        for n in (1, 2, 24):
            self.assert_steady(compared_places, n, 0, 1)
            self.assert_steady(most_rounds, n, 0)
            self.assert_steady(most_marks_rounds, n, 1, 0)
            self.assert_steady(light_limits, n, 1, 0, 5)
            self.assert_steady(count_marks, n, 1, 0, 5)
            self.assert_steady(marks_at, n, 1, 0, 5, 0)
        for n in (1, 2, 9):
            self.assert_steady(count_rows, n, 0, 2)
            self.assert_steady(row_at, n, 0, 2, 0)
            self.assert_steady(rows_within, n, 0, 2)
            self.assert_steady(rounds_counts, n, 0)

    def test_functions_of_marks(self):
        for marks in ("L", "HLLH", "LH" * 12):
            self.assert_steady(marks_after, marks, 0, 2)
            self.assert_steady(marks_rounds, marks, 1)
            for call in (marks_index, next_marks):
                self.assert_steady(call, marks, 1, 100)

    def test_functions_of_a_short_row(self):
        for row in ((7,), (2, 1), (3, 1, 2), (1, 2, 3, 4)):
            for call in (row_number, count_early_rows, early_rows):
                self.assert_steady(call, row, 0, 5)
            self.assert_steady(origins_of, row, 0, 1)
            self.assert_steady(greatest_age, row, 0)

    def test_functions_of_losses(self):
        for losses in ((), ((1, 0),), ((1, 0), (2, 1), (100, 1))):
            self.assert_steady(run_with_losses, (3, 2, 1), 0, losses, 5)
            self.assert_steady(needed_with_losses, (3, 2, 1), 0, losses)

    def test_a_rejected_value_does_not_change(self):
        for error_class, call in REJECTING_CALLS:
            for value in VALUES:
                if exact(value) != exact(0):
                    before = exact(value)
                    for attempt in range(2):
                        with self.assertRaises(error_class) as caught:
                            call(value)
                        self.assertEqual(exact(value), before)
                        (kept,) = vars(caught.exception).values()
                        self.assertIs(kept, value)

    def test_a_value_that_is_refused_without_being_kept(self):
        for error_class, accepted, call in PLAIN_CALLS:
            for value in VALUES:
                if value not in accepted:
                    before = exact(value)
                    self.assert_error(error_class, {}, call, value)
                    self.assertEqual(exact(value), before)

    def test_a_call_after_an_error_is_as_before(self):
        for error_class, call in REJECTING_CALLS:
            before = exact(call(0))
            with self.assertRaises(error_class):
                call([0])
            self.assertEqual(exact(call(0)), before)

    def test_a_later_change_of_an_argument_has_no_effect(self):
        value = ([1], 2)
        error = row_error(value)
        value[0].append(2)
        self.assert_exact(error, (0, "key"))

    def test_texts(self):
        for text in ("7", "3 1 2"):
            self.assert_steady(parse_row, text)
            self.assert_steady(parse_start, "1: " + text)
        for value in (("sorted",), ("late", 3, 1)):
            self.assert_steady(certificate_text, value)
            self.assert_steady(parse_certificate, certificate_text(value))

    def test_values_that_are_no_texts(self):
        for call in (parse_row, parse_start, parse_certificate):
            for value in VALUES:
                if not isinstance(value, str):
                    before = exact(value)
                    self.assert_error(BadText, {"index": None}, call, value)
                    self.assertEqual(exact(value), before)


class ObjectsTest(ExactCase):
    def state(self, runner):
        return [
            runner.row(), runner.rounds(), runner.exchanges(), runner.lost(), runner.compared(),
            runner.remaining(), runner.actions(), len(runner), str(runner),
        ]

    def test_values_that_a_runner_refuses(self):
        runner = Runner((4, 3, 2, 1), 0)
        runner.lose(2)
        before = exact(self.state(runner))
        for value in VALUES:
            kept = exact(value)
            if exact(value) != exact(0):
                self.assert_error(NoPlace, {"value": value}, runner.lose, value)
            self.assert_error(NoRounds, {"value": value}, runner.steps, value)
            if value is not None and exact(value) != exact(0):
                with self.assertRaises(NoVersion):
                    runner.row(version=value)
            self.assertEqual(exact(value), kept)
            self.assertEqual(exact(self.state(runner)), before)

    def test_equal_queries_give_equal_results(self):
        runner = Runner((4, 3, 2, 1), 0)
        runner.step()
        self.assert_exact(self.state(runner), self.state(runner))
        self.assert_exact(self.state(runner), self.state(runner.copy()))

    def test_a_value_that_is_no_row_does_not_change(self):
        for value in VALUES:
            kept = exact(value)
            error = row_error(value)
            if error is not None:
                self.assert_error(BadRow, {"error": error}, Runner, value, 0)
            self.assertEqual(exact(value), kept)

    def test_lines_do_not_change(self):
        shell = Shell(Runner((2, 1), 0))
        for value in VALUES:
            kept = exact(value)
            shell.execute(value)
            self.assertEqual(exact(value), kept)

    def test_a_line_that_changes_later_has_no_effect(self):
        shell = Shell(Runner((2, 1), 0))
        line = ["step"]
        shell.execute(line)
        line.clear()
        self.assert_exact(shell.transcript(), ((None, "unknown command"),))
