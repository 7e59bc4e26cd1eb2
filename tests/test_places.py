"""Points 36 to 42: places after any number of rounds."""

from oddrounds.bounds import MAX_KEY, MAX_LENGTH
from oddrounds.errors import NoKey
from oddrounds.places import exchange_round, last_move, moves_of, path_of, place_after, row_after
from tests.checks import BIG, OTHER_VALUES, SAMPLE_ROWS, SHUFFLED_24, ExactCase, small_rows
from tests.running import last_change, run_rows

ALL_STARTS = tuple((row, start) for row in (*SAMPLE_ROWS, *small_rows()) for start in (0, 1))
ROW = (3, 1, 2)
LATE_ROUNDS = (100, 101, 10 ** 6, MAX_LENGTH - 1, MAX_LENGTH)


def many_rounds(row):
    """Return a number of rounds that is a little beyond what any row needs."""
    return len(row) + 3


class PlacesTest(ExactCase):
    def test_example_of_place_after(self):
        results = [place_after(ROW, 0, 3, 1), place_after(ROW, 0, 3, 10 ** 12)]
        self.assert_exact(results, [1, 2])
        self.assert_error(NoKey, {"value": 5}, place_after, ROW, 0, 5, 1)

    def test_example_of_row_after(self):
        self.assert_exact([row_after(ROW, 0, 1), row_after(ROW, 1, 1)], [(1, 3, 2), (3, 1, 2)])

    def test_row_after_against_running(self):
        for row, start in ALL_STARTS:
            rows = run_rows(row, start, many_rounds(row))
            for rounds in range(len(rows)):
                self.assert_exact(row_after(row, start, rounds), rows[rounds])

    def test_place_after_against_running(self):
        for row, start in ALL_STARTS:
            rows = run_rows(row, start, many_rounds(row))
            for key in row:
                for rounds in range(len(rows)):
                    place = rows[rounds].index(key)
                    self.assert_exact(place_after(row, start, key, rounds), place)

    def test_many_rounds_sort_the_row(self):
        for row, start in ALL_STARTS:
            goal = tuple(sorted(row))
            for rounds in LATE_ROUNDS:
                self.assert_exact(row_after(row, start, rounds), goal)
                for place, key in enumerate(goal):
                    self.assert_exact(place_after(row, start, key, rounds), place)


class PathsTest(ExactCase):
    def test_example_of_path_of(self):
        self.assert_exact([path_of(ROW, 0, 3), path_of((1, 2), 0, 2)], [(0, 1, 2), (1,)])

    def test_example_of_last_move(self):
        results = [last_move(ROW, 0, 1), last_move(ROW, 0, 2), last_move((1, 2), 0, 2)]
        self.assert_exact(results, [1, 2, 0])

    def test_example_of_moves_of(self):
        self.assert_exact([moves_of(ROW, 0, 3), moves_of(ROW, 1, 2)], [(0, 2), (1, 0)])

    def test_against_running(self):
        for row, start in ALL_STARTS:
            rows = run_rows(row, start, many_rounds(row))
            for key in row:
                path = [after.index(key) for after in rows]
                last = last_change(path)
                self.assert_exact(last_move(row, start, key), last)
                self.assert_exact(path_of(row, start, key), tuple(path[:last + 1]))
                steps = [after - before for before, after in zip(path, path[1:])]
                self.assert_exact(moves_of(row, start, key), (steps.count(-1), steps.count(1)))

    def test_a_key_that_pauses_between_its_moves(self):
        rows = run_rows((2, 3, 1), 0, 4)
        self.assertEqual([row.index(2) for row in rows], [0, 0, 0, 1, 1])
        self.assert_exact(path_of((2, 3, 1), 0, 2), (0, 0, 0, 1))
        self.assert_exact(last_move((2, 3, 1), 0, 2), 3)

    def test_a_key_that_comes_back(self):
        self.assert_exact(path_of((3, 2, 1), 0, 2), (1, 0, 0, 1))
        self.assert_exact(moves_of((3, 2, 1), 0, 2), (1, 1))
        self.assert_exact(last_move((3, 2, 1), 0, 2), 3)

    def test_one_key(self):
        for start in (0, 1):
            self.assert_exact(path_of((7,), start, 7), (0,))
            self.assert_exact(last_move((7,), start, 7), 0)
            self.assert_exact(moves_of((7,), start, 7), (0, 0))
            self.assert_exact(place_after((7,), start, 7, 5), 0)


class ExchangeRoundTest(ExactCase):
    def test_example(self):
        results = [exchange_round(ROW, 0, 2, 3), exchange_round(ROW, 0, 1, 2)]
        self.assert_exact(results, [2, None])
        self.assert_error(NoKey, {"value": 4}, exchange_round, ROW, 0, 4, True)

    def test_against_running(self):
        for row, start in ALL_STARTS:
            rows = run_rows(row, start, many_rounds(row))
            keys = row if row != SHUFFLED_24 else row[::4]
            for one in keys:
                for other in keys:
                    before = [after.index(one) < after.index(other) for after in rows]
                    expected = last_change(before) if one != other else 0
                    result = exchange_round(row, start, one, other)
                    self.assert_exact(result, None if expected == 0 else expected)

    def test_the_order_of_the_two_keys_does_not_matter(self):
        self.assert_exact([exchange_round((2, 1), 0, 1, 2), exchange_round((2, 1), 0, 2, 1)], [1, 1])
        self.assert_exact([exchange_round((2, 1), 1, 1, 2), exchange_round((2, 1), 1, 2, 1)], [2, 2])

    def test_equal_keys_are_never_exchanged(self):
        for key in ROW:
            self.assert_exact(exchange_round(ROW, 0, key, key), None)

    def test_the_first_value_that_is_no_key_is_in_the_error(self):
        wrong = (*OTHER_VALUES, 0, -1, 4, BIG)
        for value in wrong:
            for start in (0, 1):
                self.assert_error(NoKey, {"value": value}, exchange_round, ROW, start, value, 3)
                self.assert_error(NoKey, {"value": value}, exchange_round, ROW, start, 3, value)
                self.assert_error(NoKey, {"value": value}, exchange_round, ROW, start, value, value)
            for other in wrong:
                self.assert_error(NoKey, {"value": value}, exchange_round, ROW, 0, value, other)


class NoKeyTest(ExactCase):
    def assert_no_key(self, row, value):
        for start in (0, 1):
            for call in (path_of, last_move, moves_of):
                self.assert_error(NoKey, {"value": value}, call, row, start, value)
            for rounds in (0, 1, MAX_LENGTH):
                self.assert_error(NoKey, {"value": value}, place_after, row, start, value, rounds)

    def test_numbers_that_are_not_in_the_row(self):
        for value in (-1, 0, 4, 24, MAX_KEY, MAX_KEY + 1, BIG, -BIG):
            self.assert_no_key(ROW, value)

    def test_values_of_other_kinds(self):
        for row in (ROW, (1, 0, 2), (0,), (1,)):
            for value in (*OTHER_VALUES, "2", (2,), [2], {"2": 2}, row):
                self.assert_no_key(row, value)

    def test_the_error_has_the_very_value(self):
        for value in ([2], {"a": [2]}, ((2,), [])):
            for call in (path_of, last_move, moves_of):
                with self.assertRaises(NoKey) as caught:
                    call(ROW, 0, value)
                self.assertIs(caught.exception.value, value)
            for arguments in ((value, 1), (1, value)):
                with self.assertRaises(NoKey) as caught:
                    exchange_round(ROW, 0, *arguments)
                self.assertIs(caught.exception.value, value)
