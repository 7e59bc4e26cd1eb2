"""Points 76 to 79: the rows that some rounds turn into a row."""

import itertools
from unittest import mock

from oddrounds.bounds import MAX_KEY
from oddrounds.errors import TooLong, TooMany
from oddrounds.origins import count_early_rows, early_rows, greatest_age
from tests.checks import REVERSED_24, SHUFFLED_23, SORTED_24, ExactCase
from tests.running import is_sorted, run_round

STARTS = (0, 1)
KEYS = (0, 1, 7, 40, 41, 10 ** 6, MAX_KEY)


def sources(keys, start, rounds):
    """Return a list with, for each number of rounds, a dict of all orders by the row they become."""
    rows = {row: row for row in sorted(itertools.permutations(keys))}
    tables = []
    for number in range(rounds + 1):
        if number > 0:
            rows = {row: run_round(rows[row], start, number)[0] for row in rows}
        table = {}
        for row in rows:
            table.setdefault(rows[row], []).append(row)
        tables.append(table)
    return tables


# One table for each start and number of rounds from 0 to more than the places.
TABLES = {
    (size, start): sources(KEYS[:size], start, size + 2) for size in range(1, 8) for start in STARTS
}


def tried_rows(size):
    """Return all orders of up to five keys, and some of six and seven."""
    rows = list(itertools.permutations(KEYS[:size]))
    return rows if size < 6 else [*rows[:40], *rows[40::29 if size == 6 else 211]]


def cases():
    """Yield (row, start, rounds, the early rows in ascending order)."""
    for (size, start), tables in TABLES.items():
        for row in tried_rows(size):
            for rounds, table in enumerate(tables):
                yield row, start, rounds, table.get(row, [])
            yield row, start, 100, tables[-1].get(row, [])


class ExamplesTest(ExactCase):
    def test_count_early_rows(self):
        results = [count_early_rows((1, 2, 3), 0, rounds) for rounds in (0, 2, 3)]
        self.assert_exact(results, [1, 4, 6])

    def test_early_rows(self):
        self.assert_exact(early_rows((2, 1, 3), 0, 2), ((2, 3, 1), (3, 2, 1)))

    def test_greatest_age(self):
        results = [greatest_age(row, 0) for row in ((2, 1, 3), (1, 3, 2), (3, 2, 1), (1, 2, 3))]
        self.assert_exact(results, [2, 1, 0, None])


class SmallRowsTest(ExactCase):
    """Against running the rounds on all orders of the keys."""

    def test_count_early_rows(self):
        for row, start, rounds, expected in cases():
            self.assert_exact(count_early_rows(row, start, rounds), len(expected))

    def test_early_rows(self):
        for row, start, rounds, expected in cases():
            if len(expected) > 2000:
                self.assert_error(TooMany, {"limit": 2000}, early_rows, row, start, rounds)
            else:
                self.assert_exact(early_rows(row, start, rounds), tuple(expected))

    def test_greatest_age(self):
        for (size, start), tables in TABLES.items():
            for row in tried_rows(size):
                ages = [rounds for rounds, table in enumerate(tables) if row in table]
                expected = None if is_sorted(row) else max(ages)
                self.assert_exact(greatest_age(row, start), expected)

    def test_ages_that_are_not_consecutive(self):
        gaps = 0
        for (size, start), tables in TABLES.items():
            for row in tried_rows(size):
                ages = [rounds for rounds, table in enumerate(tables) if row in table]
                if not is_sorted(row) and ages != list(range(len(ages))):
                    gaps += 1
                    missing = [age for age in range(ages[-1]) if age not in ages]
                    self.assert_exact(count_early_rows(row, start, missing[0]), 0)
                    self.assert_exact(early_rows(row, start, missing[0]), ())
                    self.assert_exact(greatest_age(row, start), ages[-1])
        self.assertGreater(gaps, 0)

    def test_no_rounds(self):
        for size in range(1, 8):
            for row in tried_rows(size):
                self.assert_exact(early_rows(row, 0, 0), (row,))

    def test_one_place(self):
        for start, rounds in itertools.product(STARTS, (0, 1, 2, 100)):
            self.assert_exact(count_early_rows((7,), start, rounds), 1)
            self.assert_exact(early_rows((7,), start, rounds), ((7,),))
            self.assert_exact(greatest_age((7,), start), None)


class LimitsTest(ExactCase):
    def test_the_ascending_row_of_seven_places(self):
        row = KEYS
        for start in STARTS:
            for rounds in (*range(10), 100):
                table = TABLES[7, start][min(rounds, 9)]
                total = count_early_rows(row, start, rounds)
                self.assert_exact(total, len(table[row]))
                if total > 2000:
                    self.assert_error(TooMany, {"limit": 2000}, early_rows, row, start, rounds)
                else:
                    self.assert_exact(early_rows(row, start, rounds), tuple(table[row]))
            self.assert_exact(count_early_rows(row, start, 7), 5040)
            self.assert_exact(count_early_rows(row, start, 100), 5040)
            self.assert_exact(greatest_age(row, start), None)

    def test_exactly_at_the_limit(self):
        # No number of early rows is 2000 or 2001, so a limit of 6 stands in for it.
        with mock.patch("oddrounds.origins.LISTED", 6):
            self.assertEqual(len(early_rows((1, 2, 3), 0, 3)), 6)
        with mock.patch("oddrounds.origins.LISTED", 5):
            self.assert_error(TooMany, {"limit": 5}, early_rows, (1, 2, 3), 0, 3)

    def test_too_long(self):
        rows = (SORTED_24[:8], REVERSED_24[:8], SORTED_24[3:12], SHUFFLED_23, SORTED_24, REVERSED_24)
        for row, start in itertools.product(rows, STARTS):
            self.assert_error(TooLong, {"limit": 7}, greatest_age, row, start)
            for rounds in (0, 1, 7, 8, 24, 100):
                self.assert_error(TooLong, {"limit": 7}, count_early_rows, row, start, rounds)
                self.assert_error(TooLong, {"limit": 7}, early_rows, row, start, rounds)
