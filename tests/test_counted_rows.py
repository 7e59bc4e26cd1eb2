"""Points 63 to 69: rows that are sorted after some rounds, how many there are, and their numbers."""

import itertools
import math
from unittest import mock

from oddrounds.bounds import MAX_KEY
from oddrounds.counting import count_rows, most_rounds, row_at, row_number, rounds_counts, rows_within
from oddrounds.errors import NoIndex, TooLong, TooMany, TooSlow
from tests.checks import BIG, OTHER_VALUES, REVERSED_24, SHUFFLED_24, SORTED_24, ExactCase
from tests.running import place_list, run_needed

STARTS = (0, 1)
# Keys of every size, so that the order of a row, and not its keys, decides.
KEYS = (3, 4, 50, 51, 10 ** 6, MAX_KEY)


def slow_rows(n, start):
    """Return a dict of all rows of the keys 0 to n - 1 with their needed rounds."""
    return {row: run_needed(row, start) for row in itertools.permutations(range(n))}


NEEDED = {(n, start): slow_rows(n, start) for n in range(1, 7) for start in STARTS}


def rows_lists():
    """Yield (n, start, rounds, the rows that are sorted after the rounds in ascending order)."""
    for (n, start), needed in NEEDED.items():
        for rounds in (*range(n + 3), 100):
            yield n, start, rounds, [row for row in needed if needed[row] <= rounds]


class ExamplesTest(ExactCase):
    def test_count_rows(self):
        results = [count_rows(3, 0, rounds) for rounds in range(4)]
        self.assert_exact(results, [1, 2, 4, 6])

    def test_row_at(self):
        results = [row_at(3, 0, 2, 0), row_at(3, 0, 2, 1), row_at(3, 0, 2, 3)]
        self.assert_exact(results, [(0, 1, 2), (0, 2, 1), (2, 0, 1)])
        self.assert_error(NoIndex, {"index": 4}, row_at, 3, 0, 2, 4)

    def test_row_number(self):
        self.assert_exact(row_number((20, 5, 10), 0, 2), 3)
        self.assert_error(TooSlow, {"needed": 3}, row_number, (20, 10, 5), 0, 2)

    def test_rows_within(self):
        expected = [((0, 1, 2), (1, 0, 2)), ((0, 1, 2), (0, 2, 1))]
        self.assert_exact([rows_within(3, 0, 1), rows_within(3, 1, 1)], expected)

    def test_rounds_counts(self):
        results = [rounds_counts(3, 0), rounds_counts(2, 1), rounds_counts(1, 0)]
        self.assert_exact(results, [(1, 1, 2, 2), (1, 0, 1), (1, 0)])

    def test_most_rounds(self):
        results = [most_rounds(1, 1), most_rounds(2, 0), most_rounds(2, 1), most_rounds(24, 0)]
        self.assert_exact(results, [0, 1, 2, 24])


class SmallRowsTest(ExactCase):
    """Rows of up to six keys, against running the rounds on all of them."""

    def test_count_rows(self):
        for n, start, rounds, rows in rows_lists():
            self.assert_exact(count_rows(n, start, rounds), len(rows))

    def test_rows_within(self):
        for n, start, rounds, rows in rows_lists():
            self.assert_exact(rows_within(n, start, rounds), tuple(rows))

    def test_row_at_in_the_order_of_the_place_lists(self):
        for n, start, rounds, rows in rows_lists():
            for index, row in enumerate(sorted(rows, key=place_list)):
                self.assert_exact(row_at(n, start, rounds, index), row)

    def test_row_number_of_rows_of_any_keys(self):
        for n, start, rounds, rows in rows_lists():
            for index, row in enumerate(sorted(rows, key=place_list)):
                self.assert_exact(row_number(tuple(KEYS[key] for key in row), start, rounds), index)

    def test_row_number_of_rows_of_small_keys(self):
        for n, start, rounds, rows in rows_lists():
            if n < 5:
                for index, row in enumerate(sorted(rows, key=place_list)):
                    self.assert_exact(row_number(row, start, rounds), index)

    def test_rows_that_are_too_slow(self):
        for (n, start), needed in NEEDED.items():
            for row in needed:
                for rounds in (0, needed[row] - 1):
                    if rounds < needed[row]:
                        error = {"needed": needed[row]}
                        self.assert_error(TooSlow, error, row_number, row, start, rounds)

    def test_rounds_counts(self):
        for (n, start), needed in NEEDED.items():
            counts = list(needed.values())
            expected = tuple(counts.count(k) for k in range(n + 1))
            self.assert_exact(rounds_counts(n, start), expected)

    def test_most_rounds(self):
        for (n, start), needed in NEEDED.items():
            self.assert_exact(most_rounds(n, start), max(needed.values()))

    def test_the_order_of_place_lists_is_not_that_of_rows(self):
        self.assert_exact([row_at(3, 0, 3, 3), row_at(3, 0, 3, 4)], [(2, 0, 1), (1, 2, 0)])
        self.assert_exact(rows_within(3, 0, 3)[3:5], ((1, 2, 0), (2, 0, 1)))


class LongRowsTest(ExactCase):
    """Rows of seven to twelve keys, without a list of all of them."""

    def test_seven_places(self):
        for start in STARTS:
            needed = list(slow_rows(7, start).values())
            expected = tuple(needed.count(k) for k in range(8))
            self.assert_exact(rounds_counts(7, start), expected)
            for rounds in (*range(10), 100):
                self.assert_exact(count_rows(7, start, rounds), sum(expected[:rounds + 1]))

    def test_counts_belong_together(self):
        for n in range(8, 13):
            for start in STARTS:
                counts = rounds_counts(n, start)
                self.assertEqual(len(counts), n + 1)
                self.assertEqual(sum(counts), math.factorial(n))
                for rounds in (*range(n + 2), 100):
                    self.assert_exact(count_rows(n, start, rounds), sum(counts[:rounds + 1]))

    def test_after_one_round(self):
        for n in range(1, 13):
            for start in STARTS:
                self.assert_exact(count_rows(n, start, 0), 1)
                # Each pair of the first round may be in either order.
                self.assert_exact(count_rows(n, start, 1), 2 ** ((n - start) // 2))

    def test_numbers_there_and_back(self):
        for n, start, rounds in itertools.product((7, 9, 12), STARTS, (0, 2, 6, 11, 100)):
            total = count_rows(n, start, rounds)
            before = ()
            for index in sorted({0, total // 7, total // 2, total - 1}):
                row = row_at(n, start, rounds, index)
                self.assertEqual(sorted(row), list(range(n)))
                self.assertLessEqual(run_needed(row, start), rounds)
                self.assertLess(before, place_list(row))
                before = place_list(row)
                self.assert_exact(row_number(row, start, rounds), index)
                moved = tuple(10 ** 9 * key + 5 for key in row)
                self.assert_exact(row_number(moved, start, rounds), index)
            self.assert_error(NoIndex, {"index": total}, row_at, n, start, rounds, total)

    def test_the_ends_of_twelve_places(self):
        ascending = tuple(range(12))
        last = math.factorial(12) - 1
        for start in STARTS:
            self.assert_exact(row_at(12, start, 12, 0), ascending)
            self.assert_exact(row_at(12, start, 12, last), ascending[::-1])
            self.assert_exact(row_number(ascending[::-1], start, 100), last)
            self.assert_error(TooSlow, {"needed": 12}, row_number, ascending[::-1], start, 11)

    def test_most_rounds_is_that_of_the_reversed_row(self):
        for n in range(1, 25):
            for start in STARTS:
                expected = run_needed(tuple(range(n))[::-1], start)
                self.assert_exact(most_rounds(n, start), expected)

    def test_most_rounds_and_the_counts(self):
        for n in range(1, 13):
            for start in STARTS:
                counts = rounds_counts(n, start)
                expected = max(k for k in range(n + 1) if counts[k] > 0)
                self.assert_exact(most_rounds(n, start), expected)


class WrongIndexTest(ExactCase):
    def test_indexes_beyond_the_ends(self):
        for n, start, rounds, rows in rows_lists():
            for index in (-1, len(rows), len(rows) + 1, -BIG, BIG):
                self.assert_error(NoIndex, {"index": index}, row_at, n, start, rounds, index)

    def test_values_of_other_kinds(self):
        for index in (*OTHER_VALUES, "0", (0,), [0]):
            for n, rounds in ((1, 0), (3, 2), (12, 12)):
                self.assert_error(NoIndex, {"index": index}, row_at, n, 0, rounds, index)

    def test_the_error_has_the_very_value(self):
        for index in ([0], {"a": [0]}):
            with self.assertRaises(NoIndex) as caught:
                row_at(3, 0, 2, index)
            self.assertIs(caught.exception.index, index)


class TooLongTest(ExactCase):
    def test_numbers_of_places(self):
        error = {"limit": 12}
        for n in (13, 14, 23, 24):
            for start in STARTS:
                self.assert_error(TooLong, error, rounds_counts, n, start)
                for rounds in (0, 1, 100):
                    self.assert_error(TooLong, error, count_rows, n, start, rounds)
                    self.assert_error(TooLong, error, rows_within, n, start, rounds)
                    for index in (0, -1, BIG, None, True, "0", [0]):
                        self.assert_error(TooLong, error, row_at, n, start, rounds, index)

    def test_rows(self):
        for row in (SORTED_24, REVERSED_24, SHUFFLED_24, SORTED_24[:13], REVERSED_24[:13]):
            for start in STARTS:
                for rounds in (0, 1, 100):
                    self.assert_error(TooLong, {"limit": 12}, row_number, row, start, rounds)

    def test_twelve_places_are_not_too_long(self):
        self.assert_exact(count_rows(12, 0, 0), 1)
        self.assert_exact(row_number(SORTED_24[5:17], 1, 0), 0)
        self.assert_exact(rows_within(12, 0, 0), (SORTED_24[:12],))


class TooManyTest(ExactCase):
    def test_above_the_limit(self):
        seen = []
        for n in range(7, 13):
            for start, rounds in itertools.product(STARTS, range(5)):
                total = count_rows(n, start, rounds)
                seen.append(total)
                if total > 2000:
                    self.assert_error(TooMany, {"limit": 2000}, rows_within, n, start, rounds)
                else:
                    rows = rows_within(n, start, rounds)
                    self.assertEqual(len(set(rows)), total)
                    self.assertEqual(list(rows), sorted(rows))
                    for row in rows:
                        self.assertLessEqual(run_needed(row, start), rounds)
        # Both sides of the limit have been tried.
        self.assertTrue([total for total in seen if 1000 <= total <= 2000])
        self.assertIn(2048, seen)

    def test_exactly_at_the_limit(self):
        # No number of rows is 2000 or 2001, so a limit of 6 stands in for it.
        with mock.patch("oddrounds.counting.LISTED", 6):
            self.assertEqual(len(rows_within(3, 0, 3)), 6)
        with mock.patch("oddrounds.counting.LISTED", 5):
            self.assert_error(TooMany, {"limit": 5}, rows_within, 3, 0, 3)

    def test_all_rows_of_seven_keys(self):
        for start in STARTS:
            self.assert_error(TooMany, {"limit": 2000}, rows_within, 7, start, 100)
