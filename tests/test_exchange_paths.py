"""Points 33 to 35: rows that arise from each other by exchanges."""

import itertools

from oddrounds.bounds import MAX_KEY
from oddrounds.delays import exchange_path, exchange_path_holds, is_within, needed_rounds
from oddrounds.rows import inversions
from tests.checks import BIG, OTHER_VALUES, REVERSED_24, SHUFFLED_24, SORTED_24, ExactCase, exact, small_rows

PAIRS = tuple(
    (one, other) for one in small_rows() for other in small_rows()
    if len(one) <= 4 and sorted(one) == sorted(other)
)
LONG_ONE = (*SHUFFLED_24[:6], *sorted(SHUFFLED_24[6:18]), *SHUFFLED_24[18:])
LONG_PAIRS = (
    (tuple(sorted(SHUFFLED_24)), SHUFFLED_24), (LONG_ONE, SHUFFLED_24), (SHUFFLED_24, SHUFFLED_24),
    (SORTED_24, REVERSED_24), (SHUFFLED_24, tuple(sorted(SHUFFLED_24, reverse=True))),
)


def all_inversions_occur(one, other):
    return set(inversions(one)) <= set(inversions(other))


def exchanged(row, place):
    keys = list(row)
    keys[place], keys[place + 1] = keys[place + 1], keys[place]
    return tuple(keys)


def is_next(row, after):
    """Return whether after arises from row by an exchange of a descending pair."""
    different = [p for p in range(len(row)) if row[p] != after[p]]
    if len(different) != 2 or different[1] != different[0] + 1:
        return False
    return exchanged(row, different[0]) == after and row[different[0]] > after[different[0]]


class IsWithinTest(ExactCase):
    def test_example(self):
        results = [is_within((1, 3, 2), (3, 1, 2)), is_within((2, 1, 3), (1, 3, 2))]
        self.assert_exact(results, [True, False])

    def test_against_the_inversions(self):
        for one, other in (*PAIRS, *LONG_PAIRS):
            self.assert_exact(is_within(one, other), all_inversions_occur(one, other))
            self.assert_exact(is_within(other, one), all_inversions_occur(other, one))

    def test_the_same_row_twice(self):
        for row in (*small_rows(), SHUFFLED_24):
            self.assert_exact(is_within(row, row), True)

    def test_more_inversions_alone_are_not_enough(self):
        self.assert_exact(is_within((2, 1, 3, 4), (1, 4, 3, 2)), False)

    def test_a_row_within_another_one_never_needs_more_rounds(self):
        for one, other in (*PAIRS, *LONG_PAIRS):
            if is_within(one, other):
                for start in (0, 1):
                    self.assertLessEqual(needed_rounds(one, start), needed_rounds(other, start))


class ExchangePathTest(ExactCase):
    def test_example(self):
        self.assert_exact(exchange_path((1, 2, 3), (3, 1, 2)), ((3, 1, 2), (1, 3, 2), (1, 2, 3)))

    def test_none_if_the_row_is_not_within(self):
        self.assert_exact(exchange_path((2, 1, 3), (1, 3, 2)), None)
        self.assert_exact(exchange_path((3, 1, 2), (1, 3, 2)), None)
        for one, other in PAIRS:
            if not all_inversions_occur(one, other):
                self.assert_exact(exchange_path(one, other), None)

    def test_the_same_row_twice(self):
        for row in (*small_rows(), SHUFFLED_24):
            self.assert_exact(exchange_path(row, row), (row,))

    def test_each_exchange_is_the_lowest_possible_one(self):
        for one, other in (*PAIRS, *LONG_PAIRS):
            if not all_inversions_occur(one, other):
                continue
            path = exchange_path(one, other)
            self.assertIsInstance(path, tuple)
            self.assert_exact([path[0], path[-1]], [other, one])
            self.assertEqual(len(path), len(inversions(other)) - len(inversions(one)) + 1)
            for row, after in zip(path, path[1:]):
                allowed = [
                    p for p in range(len(row) - 1)
                    if row[p] > row[p + 1] and one.index(row[p + 1]) < one.index(row[p])
                ]
                self.assert_exact(after, exchanged(row, allowed[0]))

    def test_a_pair_that_is_descending_in_both_rows_stays(self):
        self.assert_exact(exchange_path((2, 1, 3), (2, 3, 1)), ((2, 3, 1), (2, 1, 3)))
        path = ((3, 2, 1), (2, 3, 1), (2, 1, 3))
        self.assert_exact(exchange_path((2, 1, 3), (3, 2, 1)), path)


class ExchangePathHoldsTest(ExactCase):
    def assert_holds(self, one, other, value, expected):
        self.assert_exact(exchange_path_holds(one, other, value), expected)

    def test_example(self):
        results = [
            exchange_path_holds((1, 2), (2, 1), ((2, 1), (1, 2))),
            exchange_path_holds((2, 1), (1, 2), ((1, 2), (2, 1))),
        ]
        self.assert_exact(results, [True, False])

    def test_paths_that_the_package_finds_hold(self):
        for one, other in (*PAIRS, *LONG_PAIRS):
            path = exchange_path(one, other)
            self.assert_holds(one, other, path, path is not None)

    def test_every_short_tuple_of_rows(self):
        rows = list(itertools.permutations((0, 1, 7)))
        paths = [path for size in range(1, 4) for path in itertools.product(rows, repeat=size)]
        for one in ((0, 1, 7), (1, 0, 7), (7, 1, 0)):
            for other in rows:
                for path in paths:
                    ends = path[0] == other and path[-1] == one
                    steps = all(is_next(row, after) for row, after in zip(path, path[1:]))
                    self.assert_holds(one, other, path, ends and steps)

    def test_other_exchanges_than_the_lowest_ones(self):
        path = ((3, 2, 1), (3, 1, 2), (1, 3, 2), (1, 2, 3))
        self.assertNotEqual(exchange_path((1, 2, 3), (3, 2, 1)), path)
        self.assert_holds((1, 2, 3), (3, 2, 1), path, True)

    def test_the_same_row_twice(self):
        for row in ((7,), (2, 1), SHUFFLED_24):
            self.assert_holds(row, row, (row,), True)
            self.assert_holds(row, row, (row, row), False)
            self.assert_holds(row, row, (), False)
            self.assert_holds(row, row, row, False)

    def test_a_way_back_is_no_path(self):
        self.assert_holds((2, 1), (2, 1), ((2, 1), (1, 2), (2, 1)), False)
        self.assert_holds((1, 2), (1, 2), ((1, 2), (2, 1), (1, 2)), False)

    def test_keys_that_are_no_neighbours(self):
        self.assert_holds((1, 2, 3), (3, 2, 1), ((3, 2, 1), (1, 2, 3)), False)
        self.assert_holds((1, 2, 0, 3), (2, 1, 3, 0), ((2, 1, 3, 0), (1, 2, 0, 3)), False)

    def test_rows_left_out_repeated_replaced_or_reversed(self):
        for one, other in (((1, 2, 3, 4), (4, 3, 2, 1)), LONG_PAIRS[0]):
            path = exchange_path(one, other)
            self.assert_holds(one, other, path[::-1], False)
            self.assert_holds(one, other, (*path, one), False)
            self.assert_holds(other, one, path, False)
            for at in range(len(path)):
                before, behind = path[:at], path[at + 1:]
                self.assert_holds(one, other, before + behind, False)
                self.assert_holds(one, other, (*before, path[at], path[at], *behind), False)
                for part in (list(path[at]), path[at][:-1], (*path[at], 99), (), None, path[at][::-1]):
                    self.assert_holds(one, other, (*before, part, *behind), False)

    def test_lists_are_no_tuples(self):
        self.assert_holds((1, 2), (2, 1), [(2, 1), (1, 2)], False)
        self.assert_holds((1, 2), (2, 1), ([2, 1], (1, 2)), False)
        self.assert_holds((1, 2), (2, 1), ((2, 1), [1, 2]), False)

    def test_bools_are_no_integers(self):
        self.assert_holds((0, 1), (1, 0), ((1, 0), (0, 1)), True)
        self.assert_holds((0, 1), (1, 0), ((True, 0), (0, 1)), False)
        self.assert_holds((0, 1), (1, 0), ((1, False), (0, 1)), False)
        self.assert_holds((0, 1), (1, 0), ((1, 0), (0, True)), False)
        self.assert_holds((0, 1), (1, 0), ((1, 0), (False, True)), False)
        self.assert_holds((1,), (1,), ((True,),), False)
        path = exchange_path((0, 1, 7), (7, 1, 0))
        for at in range(len(path)):
            row = tuple(True if key == 1 else key for key in path[at])
            self.assert_holds((0, 1, 7), (7, 1, 0), (*path[:at], row, *path[at + 1:]), False)

    def test_values_of_other_kinds(self):
        for value in (*OTHER_VALUES, 0, 1, BIG, "((2, 1), (1, 2))", {"a": ((2, 1), (1, 2))}):
            self.assert_holds((1, 2), (2, 1), value, False)
            self.assert_holds((1, 2), (1, 2), value, False)
            self.assert_holds((1, 2), (2, 1), ((2, 1), value), False)
            self.assert_holds((1, 2), (2, 1), (value, (1, 2)), False)
            if exact(value) != exact((1,)):
                self.assert_holds((1,), (1,), (value,), False)

    def test_rows_with_other_keys(self):
        self.assert_holds((1, 2, 3), (2, 3, 1), ((2, 3, 1), (2, 1, 4), (1, 2, 3)), False)
        self.assert_holds((0, 5), (5, 0), ((5, 0), (0, MAX_KEY)), False)
