"""Points 70 to 75: the rows that one round turns into a row."""

import itertools
from unittest import mock

from oddrounds.bounds import MAX_KEY
from oddrounds.errors import NoIndex, TooMany
from oddrounds.origins import count_origins, first_disorder, origin_at, origin_index, origins_of
from tests.checks import BIG, OTHER_VALUES, REVERSED_24, SAMPLE_ROWS, SORTED_24, ExactCase
from tests.running import pairs_of_round, run_round

STARTS = (0, 1)
NUMBERS = (1, 2, 99, 100)
KEYS = (0, 1, 7, 40, MAX_KEY)


def small_origins():
    """Yield (row, start, number, all origins of the row in ascending order)."""
    for size, start, number in itertools.product(range(1, 6), STARTS, NUMBERS):
        rows = sorted(itertools.permutations(KEYS[:size]))
        for row in rows:
            yield row, start, number, [item for item in rows if run_round(item, start, number)[0] == row]


SMALL_ORIGINS = tuple(small_origins())


def pairs_exchanged(row, places):
    """Return the row with the keys at each of the places and behind it exchanged."""
    items = list(row)
    for p in places:
        items[p], items[p + 1] = items[p + 1], items[p]
    return tuple(items)


class ExamplesTest(ExactCase):
    def test_first_disorder(self):
        results = [first_disorder((1, 3, 2), 0, 1), first_disorder((1, 3, 2), 0, 2)]
        self.assert_exact(results, [None, 1])

    def test_count_origins(self):
        results = [count_origins((1, 3, 2, 4), 0, 1), count_origins((1, 3, 2, 4), 0, 2)]
        self.assert_exact(results, [4, 0])

    def test_origins_of(self):
        self.assert_exact(origins_of((1, 3, 2), 0, 1), ((1, 3, 2), (3, 1, 2)))

    def test_origin_at(self):
        results = [origin_at((1, 3, 2, 4), 0, 1, 0), origin_at((1, 3, 2, 4), 0, 1, 2)]
        self.assert_exact(results, [(1, 3, 2, 4), (3, 1, 2, 4)])
        self.assert_error(NoIndex, {"index": 0}, origin_at, (1, 3, 2), 0, 2, 0)

    def test_origin_index(self):
        results = [origin_index((1, 3, 2), 0, 1, (3, 1, 2)), origin_index((1, 3, 2), 0, 1, (2, 1, 3))]
        self.assert_exact(results, [1, None])


class SmallRowsTest(ExactCase):
    """Rows of up to five keys, against running the round on all orders of them."""

    def test_first_disorder(self):
        for row, start, number, origins in SMALL_ORIGINS:
            places = [p for p in pairs_of_round(len(row), start, number) if row[p] > row[p + 1]]
            result = first_disorder(row, start, number)
            self.assert_exact(result, min(places, default=None))
            self.assertEqual(result is None, len(origins) > 0)

    def test_count_origins(self):
        for row, start, number, origins in SMALL_ORIGINS:
            self.assert_exact(count_origins(row, start, number), len(origins))

    def test_origins_of(self):
        for row, start, number, origins in SMALL_ORIGINS:
            self.assert_exact(origins_of(row, start, number), tuple(origins))

    def test_origin_at(self):
        for row, start, number, origins in SMALL_ORIGINS:
            for index, origin in enumerate(origins):
                self.assert_exact(origin_at(row, start, number, index), origin)
            for index in (-1, len(origins), len(origins) + 1):
                self.assert_error(NoIndex, {"index": index}, origin_at, row, start, number, index)

    def test_origin_index(self):
        for row, start, number, origins in SMALL_ORIGINS:
            for value in itertools.permutations(row):
                expected = origins.index(value) if value in origins else None
                self.assert_exact(origin_index(row, start, number, value), expected)


class LongRowsTest(ExactCase):
    """Rows of 21 to 24 places."""

    def cases(self):
        for n, start, number in itertools.product((22, 23, 24), STARTS, NUMBERS):
            # The pairs of the round are ascending, the row as a whole is not.
            blocks = [(place + start + number + 1) // 2 * 5 % 13 for place in range(n)]
            row = tuple(100 * block + place for place, block in enumerate(blocks))
            yield row, start, number
            yield SORTED_24[:n], start, number

    def test_the_smallest_one_is_the_row_itself(self):
        for row, start, number in self.cases():
            self.assert_exact(first_disorder(row, start, number), None)
            self.assert_exact(origin_at(row, start, number, 0), row)
            self.assert_exact(origin_index(row, start, number, row), 0)

    def test_count_origins(self):
        for row, start, number in self.cases():
            pairs = pairs_of_round(len(row), start, number)
            self.assert_exact(count_origins(row, start, number), 2 ** len(pairs))

    def test_indexes_there_and_back(self):
        for row, start, number in self.cases():
            total = count_origins(row, start, number)
            before = ()
            for index in (0, 1, 2, 3, 500, total // 2 - 1, total // 2, total - 2, total - 1):
                origin = origin_at(row, start, number, index)
                self.assertEqual(run_round(origin, start, number)[0], row)
                self.assertLess(before, origin)
                before = origin
                self.assert_exact(origin_index(row, start, number, origin), index)
            for index in (-1, total, total + 1, BIG, -BIG):
                self.assert_error(NoIndex, {"index": index}, origin_at, row, start, number, index)

    def test_the_last_one_has_all_pairs_exchanged(self):
        for row, start, number in self.cases():
            last = pairs_exchanged(row, pairs_of_round(len(row), start, number))
            total = 2 ** len(pairs_of_round(len(row), start, number))
            self.assert_exact(origin_at(row, start, number, total - 1), last)

    def test_all_of_them_in_order(self):
        for row, start, number in ((SORTED_24, 1, 1), (SORTED_24, 0, 1)):
            pairs = pairs_of_round(24, start, number)
            choices = itertools.product((False, True), repeat=len(pairs))
            rows = [pairs_exchanged(row, itertools.compress(pairs, choice)) for choice in choices]
            for index, origin in enumerate(sorted(rows)):
                self.assertEqual(origin_at(row, start, number, index), origin)
                self.assertEqual(origin_index(row, start, number, origin), index)

    def test_lists_of_up_to_2000(self):
        for n, start, number in itertools.product((20, 21, 22, 23, 24), STARTS, NUMBERS):
            row = SORTED_24[:n]
            pairs = pairs_of_round(n, start, number)
            if len(pairs) > 10:
                self.assert_error(TooMany, {"limit": 2000}, origins_of, row, start, number)
            else:
                choices = itertools.product((False, True), repeat=len(pairs))
                rows = [pairs_exchanged(row, itertools.compress(pairs, choice)) for choice in choices]
                self.assertEqual(origins_of(row, start, number), tuple(sorted(rows)))

    def test_exactly_at_the_limit(self):
        # The numbers of origins are 1024, 2048 and the like, so a limit of 4 stands in for 2000.
        with mock.patch("oddrounds.origins.LISTED", 4):
            self.assertEqual(len(origins_of((1, 2, 3, 4), 0, 1)), 4)
        with mock.patch("oddrounds.origins.LISTED", 3):
            self.assert_error(TooMany, {"limit": 3}, origins_of, (1, 2, 3, 4), 0, 1)

    def test_long_rows_without_an_origin(self):
        for start, number in itertools.product(STARTS, NUMBERS):
            first = pairs_of_round(24, start, number)[0]
            last = pairs_of_round(24, start, number)[-1]
            disordered = pairs_exchanged(SORTED_24, [last])
            for row, place in ((REVERSED_24, first), (disordered, last)):
                self.assert_exact(first_disorder(row, start, number), place)
                self.assert_exact(count_origins(row, start, number), 0)
                self.assert_exact(origins_of(row, start, number), ())
                self.assert_exact(origin_index(row, start, number, row), None)
                self.assert_exact(origin_index(row, start, number, SORTED_24), None)
                self.assert_error(NoIndex, {"index": 0}, origin_at, row, start, number, 0)

    def test_a_round_without_pairs(self):
        for row, start, number in (((7,), 0, 1), ((7,), 1, 100), ((1, 2), 1, 1), ((2, 1), 0, 2)):
            self.assert_exact(first_disorder(row, start, number), None)
            self.assert_exact(count_origins(row, start, number), 1)
            self.assert_exact(origins_of(row, start, number), (row,))
            self.assert_exact(origin_at(row, start, number, 0), row)
            self.assert_exact(origin_index(row, start, number, row), 0)


class WrongValuesTest(ExactCase):
    def test_indexes_of_other_kinds(self):
        for row in ((7,), (1, 3, 2, 4), SORTED_24, REVERSED_24):
            for index in (*OTHER_VALUES, "0", (0,), [0]):
                self.assert_error(NoIndex, {"index": index}, origin_at, row, 0, 1, index)

    def test_the_error_has_the_very_value(self):
        for index in ([0], {"a": [0]}):
            with self.assertRaises(NoIndex) as caught:
                origin_at((1, 2), 0, 1, index)
            self.assertIs(caught.exception.index, index)

    def test_values_of_other_kinds_are_no_origins(self):
        for row in (*SAMPLE_ROWS, (0, 1), (1, 0, 2)):
            values = (*OTHER_VALUES, 0, BIG, list(row), [row], (row,), {"row": row}, str(row))
            for value in values:
                if value != row:
                    self.assert_exact(origin_index(row, 0, 1, value), None)

    def test_bools_are_no_keys(self):
        for row in ((0, 1), (0, 1, 2), (0, 2, 1), (5, 1, 0)):
            for start, number in itertools.product(STARTS, NUMBERS):
                for origin in origins_of(row, start, number):
                    changed = tuple(bool(key) if key in (0, 1) else key for key in origin)
                    self.assert_exact(origin_index(row, start, number, changed), None)
                    at = origin.index(1)
                    changed = (*origin[:at], True, *origin[at + 1:])
                    self.assert_exact(origin_index(row, start, number, changed), None)

    def test_rows_with_a_part_changed(self):
        for row in ((3, 5, 1, 2), SORTED_24):
            for index in (0, 1, count_origins(row, 0, 1) - 1):
                origin = origin_at(row, 0, 1, index)
                for at in range(len(row)):
                    for part in (None, str(origin[at]), (origin[at],), [origin[at]], 99, -1, origin[at - 1]):
                        changed = (*origin[:at], part, *origin[at + 1:])
                        self.assert_exact(origin_index(row, 0, 1, changed), None)
                    self.assert_exact(origin_index(row, 0, 1, (*origin[:at], *origin[at + 1:])), None)
                    longer = (*origin[:at], origin[at], *origin[at:])
                    self.assert_exact(origin_index(row, 0, 1, longer), None)
                self.assert_exact(origin_index(row, 0, 1, (*origin, 99)), None)
                self.assert_exact(origin_index(row, 0, 1, list(origin)), None)
                self.assert_exact(origin_index(row, 0, 1, origin), index)

    def test_long_values(self):
        for value in (tuple(range(4000, 0, -1)), (0,) * 4000, SORTED_24 + (24,), SORTED_24[:-1]):
            self.assert_exact(origin_index(SORTED_24, 0, 1, value), None)
