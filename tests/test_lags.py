"""Points 81 and 88: rows that are as far as other ones."""

import itertools

from oddrounds.losses import first_lag
from tests.checks import MIXED_24, REVERSED_24, SAMPLE_ROWS, SHUFFLED_23, SHUFFLED_24, SORTED_24
from tests.checks import ExactCase
from tests.running import defined_lag, pairs_of_round, run_lossy, run_rows

STARTS = (0, 1)
KEYS = (0, 1, 40, 10 ** 12)


class FirstLagTest(ExactCase):
    def test_example(self):
        results = [first_lag((3, 1, 2), (1, 3, 2)), first_lag((1, 3, 2), (3, 1, 2))]
        self.assert_exact(results, [(1, 0), None])

    def test_all_pairs_of_small_rows(self):
        for size in range(1, 5):
            rows = list(itertools.permutations(KEYS[:size]))
            for one, other in itertools.product(rows, rows):
                self.assert_exact(first_lag(one, other), defined_lag(one, other))

    def test_five_keys(self):
        rows = list(itertools.permutations((2, 3, 5, 7, 11)))
        for one, other in itertools.product(rows[::3], rows[::4]):
            self.assert_exact(first_lag(one, other), defined_lag(one, other))

    def test_long_rows(self):
        shuffled = tuple(key // 3 if key != 31 else 23 for key in SHUFFLED_24)
        mixed = tuple(key // 10 ** 10 for key in MIXED_24)
        rows = (SORTED_24, REVERSED_24, shuffled, mixed, shuffled[::-1], mixed[::-1])
        for one, other in itertools.product(rows, rows):
            self.assertEqual(sorted(one), sorted(other))
            self.assert_exact(first_lag(one, other), defined_lag(one, other))

    def test_the_same_row_twice(self):
        for row in SAMPLE_ROWS:
            self.assert_exact(first_lag(row, row), None)

    def test_the_sorted_and_the_reversed_row(self):
        for row in SAMPLE_ROWS:
            ascending = tuple(sorted(row))
            descending = ascending[::-1]
            for one in (row, ascending, descending):
                self.assert_exact(first_lag(ascending, one), None)
                self.assert_exact(first_lag(one, descending), None)
            if len(row) > 1:
                self.assert_exact(first_lag(descending, ascending), (min(row), 0))

    def test_a_lag_behind_the_first_places_and_thresholds(self):
        self.assert_exact(first_lag((0, 1, 3, 2), (0, 1, 2, 3)), (2, 2))
        self.assert_exact(first_lag((1, 0, 2, 3), (0, 1, 3, 2)), (0, 0))
        self.assert_exact(first_lag((0, 2, 1, 3), (0, 1, 3, 2)), (1, 1))

    def test_rounds_go_only_forward(self):
        for row, start in itertools.product((MIXED_24, SHUFFLED_23, (5, 1, 4, 2, 3)), STARTS):
            rows = run_rows(row, start, len(row))
            for earlier, later in zip(rows, rows[1:]):
                self.assert_exact(first_lag(later, earlier), None)
                self.assertEqual(first_lag(earlier, later) is None, earlier == later)

    def test_with_and_without_losses(self):
        for row, start in itertools.product((REVERSED_24, SHUFFLED_23, (5, 1, 4, 2, 3)), STARTS):
            losses = [(r, p) for r in (1, 2, 5) for p in pairs_of_round(len(row), start, r)]
            for lost in (losses, losses[::2], losses[:3]):
                full = run_rows(row, start, 12)
                for rounds, lossy in enumerate(run_lossy(row, start, lost, 12)):
                    self.assert_exact(first_lag(full[rounds], lossy), None)
                    result = first_lag(lossy, full[rounds])
                    self.assert_exact(result, defined_lag(lossy, full[rounds]))
