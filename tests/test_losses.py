"""Points 80 to 87: lost comparisons."""

import itertools

from oddrounds.errors import BadLosses
from oddrounds.losses import are_losses, harmful_losses, idle_pairs, needed_with_losses, round_losses
from oddrounds.losses import run_with_losses
from tests.checks import BIG, MIXED_24, OTHER_VALUES, REVERSED_24, SAMPLE_ROWS, SHUFFLED_23
from tests.checks import SHUFFLED_24, SORTED_24, ExactCase, small_rows
from tests.running import defined_lag, is_sorted, lossy_needed, pairs_of_round, run_lossy, run_needed
from tests.running import run_round, run_rows

STARTS = (0, 1)
LONG_ROWS = (SORTED_24, REVERSED_24, MIXED_24, SHUFFLED_23, SHUFFLED_24)


def pairs_of_rounds(n, start, rounds):
    """Return all (number, place) of the rounds from 1 to rounds, in ascending order."""
    return tuple((r, p) for r in range(1, rounds + 1) for p in pairs_of_round(n, start, r))


def some_losses(n, start):
    """Return several losses for a row of n places."""
    pairs = pairs_of_rounds(n, start, 100)
    return (
        (), pairs[:1], pairs[-1:], pairs[:7], pairs[::3][:100], pairs[1::7][:100], pairs[:100],
        pairs[-100:], tuple(pair for pair in pairs if pair[1] == n // 2)[:100],
    )


def refused_values(row, start):
    """Return values that are almost losses for a row with at least three places."""
    pairs = pairs_of_rounds(len(row), start, 100)
    first, second, third = pairs[:3]
    number, place = first
    return (
        (second, first), (first, third, second), (first, first), (first, second, second),
        ((0, place),), ((-1, place),), ((101, pairs_of_round(len(row), start, 101)[0]),),
        ((102, pairs_of_round(len(row), start, 102)[0]),), ((BIG, place),), ((BIG + 1, place),),
        ((number, place + 1),), ((number, place - 1),), ((number, -2),), ((number, len(row)),),
        ((number, len(row) - 1),), ((number, BIG),), ((number, BIG + 1),), (first, (second[0], 99)),
        [first], [], [first, second], (list(first),), (first, list(second)), {}, {"a": first},
        first, (number,), ((number,),), ((number, place, 0),), ((first,),), ((),), (first, ()),
        (None,), (first, None), ("10",), ((str(number), place),), ((number, str(place)),),
        ((number, None),), ((None, place),), (((number,), place),), ((number, [place]),),
    )


class ExamplesTest(ExactCase):
    ROW = (3, 2, 1)

    def test_are_losses(self):
        values = (((1, 0), (2, 1)), ((1, 1),), [(1, 0)])
        results = [are_losses(self.ROW, 0, value) for value in values]
        self.assert_exact(results, [True, False, False])

    def test_round_losses(self):
        self.assert_exact(round_losses((4, 3, 2, 1), 0, 3), ((3, 0), (3, 2)))

    def test_run_with_losses(self):
        results = [run_with_losses(self.ROW, 0, ((1, 0),), 2), run_with_losses(self.ROW, 0, (), 2)]
        self.assert_exact(results, [(3, 1, 2), (2, 1, 3)])
        self.assert_error(BadLosses, {}, run_with_losses, self.ROW, 0, ((1, 1),), 2)

    def test_needed_with_losses(self):
        results = [needed_with_losses(self.ROW, 0, losses) for losses in ((), ((1, 0),), ((2, 1),))]
        self.assert_exact(results, [3, 4, 5])

    def test_idle_pairs(self):
        self.assert_exact(idle_pairs((2, 1, 3), 0, 3), ((2, 1), (3, 0)))

    def test_harmful_losses(self):
        results = [harmful_losses((2, 1, 3), 0), harmful_losses(self.ROW, 0)]
        self.assert_exact(results, [((1, 0),), ((1, 0), (2, 1), (3, 0))])


class AreLossesTest(ExactCase):
    def test_losses(self):
        for row, start in itertools.product(SAMPLE_ROWS, STARTS):
            for losses in some_losses(len(row), start):
                self.assert_exact(are_losses(row, start, losses), True)

    def test_every_single_pair(self):
        for n, start in itertools.product((1, 2, 3, 4, 5, 24), STARTS):
            pairs = pairs_of_rounds(n, start, 100)
            for number in (-1, 0, 1, 2, 3, 50, 99, 100, 101, 102):
                for place in range(-2, n + 2):
                    expected = (number, place) in pairs
                    result = are_losses(SORTED_24[:n], start, ((number, place),))
                    self.assert_exact(result, expected)

    def test_at_most_100(self):
        for row, start in itertools.product(LONG_ROWS, STARTS):
            pairs = pairs_of_rounds(len(row), start, 100)
            for size in (0, 1, 2, 99, 100):
                self.assert_exact(are_losses(row, start, pairs[:size]), True)
                self.assert_exact(are_losses(row, start, pairs[len(pairs) - size:]), True)
            for size in (101, 102, len(pairs)):
                self.assert_exact(are_losses(row, start, pairs[:size]), False)

    def test_a_row_with_one_place_has_no_loss(self):
        for start in STARTS:
            self.assert_exact(are_losses((7,), start, ()), True)
            for value in (((1, 0),), ((2, 0),), ((1, -1),), ((2, -1),)):
                self.assert_exact(are_losses((7,), start, value), False)

    def test_values_that_are_almost_losses(self):
        for row in ((3, 1, 2), (4, 3, 2, 1), SHUFFLED_23, REVERSED_24):
            for start in STARTS:
                for value in refused_values(row, start):
                    self.assert_exact(are_losses(row, start, value), False)

    def test_values_of_other_kinds(self):
        for row, start in itertools.product(((7,), (2, 1), (3, 1, 2), SHUFFLED_24), STARTS):
            for value in (*OTHER_VALUES, 0, 1, BIG):
                self.assert_exact(are_losses(row, start, value), value == ())

    def test_bools_are_no_integers(self):
        row = (4, 3, 2, 1)
        self.assert_exact(are_losses(row, 0, ((1, 0),)), True)
        for value in (((True, 0),), ((1, False),), ((True, False),), ((1, 0), (2, True))):
            self.assert_exact(are_losses(row, 0, value), False)
        self.assert_exact(are_losses(row, 1, ((1, 1),)), True)
        for value in (((True, 1),), ((1, True),), ((True, True),)):
            self.assert_exact(are_losses(row, 1, value), False)


class RoundLossesTest(ExactCase):
    def test_all_pairs_of_the_round(self):
        for row, start in itertools.product(SAMPLE_ROWS, STARTS):
            for number in (1, 2, 3, 50, 99, 100):
                expected = tuple((number, p) for p in pairs_of_round(len(row), start, number))
                self.assert_exact(round_losses(row, start, number), expected)
                self.assert_exact(are_losses(row, start, expected), True)

    def test_a_round_that_is_lost_changes_nothing(self):
        for row, start, number in itertools.product(LONG_ROWS, STARTS, (1, 2, 9)):
            losses = round_losses(row, start, number)
            before = run_with_losses(row, start, losses, number - 1)
            self.assert_exact(run_with_losses(row, start, losses, number), before)


class RunWithLossesTest(ExactCase):
    def test_long_rows_against_running(self):
        for row, start in itertools.product(SAMPLE_ROWS, STARTS):
            for losses in some_losses(len(row), start):
                rows = run_lossy(row, start, losses, 100)
                for rounds in (0, 1, 2, 3, 10, 24, 99, 100):
                    result = run_with_losses(row, start, losses, rounds)
                    self.assert_exact(result, rows[rounds])
                needed = lossy_needed(row, start, losses)
                self.assert_exact(needed_with_losses(row, start, losses), needed)

    def test_small_rows_against_running(self):
        for row, start in itertools.product(small_rows(), STARTS):
            pairs = pairs_of_rounds(len(row), start, 4)
            for losses in ((), pairs[:1], pairs[1:2], pairs[::2], pairs[1::2], pairs):
                rows = run_lossy(row, start, losses, len(row) + 5)
                for rounds in range(len(rows)):
                    self.assert_exact(run_with_losses(row, start, losses, rounds), rows[rounds])
                needed = [is_sorted(items) for items in rows].index(True)
                self.assert_exact(needed_with_losses(row, start, losses), needed)

    def test_without_losses(self):
        for row, start in itertools.product((*SAMPLE_ROWS, *small_rows()), STARTS):
            self.assert_exact(needed_with_losses(row, start, ()), run_needed(row, start))
            self.assert_exact(run_with_losses(row, start, (), 5), run_rows(row, start, 5)[-1])

    def test_more_than_100_rounds(self):
        for start in STARTS:
            # The first two places are never compared in the first 100 rounds.
            losses = tuple((r, 0) for r in range(1 + start, 101, 2))
            for row in ((2, 1), REVERSED_24):
                needed = needed_with_losses(row, start, losses)
                self.assertGreater(needed, 100)
                self.assert_exact(needed, lossy_needed(row, start, losses))
                self.assertFalse(is_sorted(run_with_losses(row, start, losses, 100)))
        losses = pairs_of_rounds(3, 0, 100)
        self.assert_exact([needed_with_losses((3, 2, 1), 0, losses), len(losses)], [103, 100])

    def test_losses_after_the_row_is_sorted_have_no_effect(self):
        for row, start in itertools.product(LONG_ROWS, STARTS):
            needed = run_needed(row, start)
            late = [pair for pair in pairs_of_rounds(len(row), start, 100) if pair[0] > needed]
            self.assert_exact(needed_with_losses(row, start, tuple(late[:100])), needed)

    def test_losses_never_help(self):
        for row, start in itertools.product((*LONG_ROWS, (5, 1, 4, 2, 3), (4, 3, 2, 1)), STARTS):
            full = run_rows(row, start, 60)
            for losses in some_losses(len(row), start):
                for rounds in (1, 2, 5, 12, 24, 60):
                    lossy = run_with_losses(row, start, losses, rounds)
                    self.assertIsNone(defined_lag(full[rounds], lossy))
                    lost = len({number for number, place in losses if number <= rounds})
                    if 2 * lost <= rounds:
                        self.assertIsNone(defined_lag(lossy, full[rounds - 2 * lost]))


class BadLossesTest(ExactCase):
    def assert_bad(self, row, start, value):
        self.assert_error(BadLosses, {}, needed_with_losses, row, start, value)
        for rounds in (0, 1, 100):
            self.assert_error(BadLosses, {}, run_with_losses, row, start, value, rounds)

    def test_values_that_are_almost_losses(self):
        for row, start in itertools.product(((3, 1, 2), (1, 2, 3, 4), REVERSED_24), STARTS):
            for value in refused_values(row, start):
                self.assert_bad(row, start, value)

    def test_values_of_other_kinds(self):
        for row, start in itertools.product(((7,), (2, 1), SHUFFLED_24), STARTS):
            for value in (*OTHER_VALUES, 0, 1, BIG):
                if value != ():
                    self.assert_bad(row, start, value)

    def test_bools_are_no_integers(self):
        for value in (((True, 0),), ((1, False),), ((1, 0), (2, True))):
            self.assert_bad((4, 3, 2, 1), 0, value)

    def test_101_losses(self):
        for start in STARTS:
            self.assert_bad(SORTED_24, start, pairs_of_rounds(24, start, 100)[:101])


class IdlePairsTest(ExactCase):
    def expected(self, row, start, rounds):
        rows = run_rows(row, start, rounds)
        pairs = pairs_of_rounds(len(row), start, rounds)
        return tuple((r, p) for r, p in pairs if rows[r - 1][p] < rows[r - 1][p + 1])

    def test_the_definition(self):
        for row, start in itertools.product((*SAMPLE_ROWS, *small_rows()), STARTS):
            for rounds in (0, 1, 2, 3, len(row), 30):
                expected = self.expected(row, start, rounds)
                self.assert_exact(idle_pairs(row, start, rounds), expected)

    def test_100_rounds(self):
        for row, start in itertools.product(LONG_ROWS, STARTS):
            self.assert_exact(idle_pairs(row, start, 100), self.expected(row, start, 100))

    def test_idle_pairs_can_be_lost_without_effect(self):
        for row, start in itertools.product((*SAMPLE_ROWS, *small_rows()), STARTS):
            rounds = len(row) + 1
            rows = run_rows(row, start, rounds)
            idle = idle_pairs(row, start, rounds)
            for losses in (idle[:100], idle[-100:], idle[::2][:100], idle[1::3][:100]):
                for number in (0, 1, len(row) // 2, len(row), rounds):
                    result = run_with_losses(row, start, losses, number)
                    self.assert_exact(result, rows[number])
                self.assert_exact(needed_with_losses(row, start, losses), run_needed(row, start))


class HarmfulLossesTest(ExactCase):
    def test_the_definition(self):
        for row, start in itertools.product(small_rows(), STARTS):
            needed = run_needed(row, start)
            pairs = pairs_of_rounds(len(row), start, len(row) + 2)
            expected = [pair for pair in pairs if lossy_needed(row, start, (pair,)) > needed]
            self.assert_exact(harmful_losses(row, start), tuple(expected))

    def test_long_rows(self):
        for row, start in itertools.product((MIXED_24, SHUFFLED_23, (5, 1, 4, 2, 3, 0, 9)), STARTS):
            needed = run_needed(row, start)
            # Without an exchange a loss has no effect, so these are all that can be harmful.
            expected = []
            items = row
            for number in range(1, needed + 1):
                for p in pairs_of_round(len(row), start, number):
                    if items[p] > items[p + 1] and lossy_needed(row, start, ((number, p),)) > needed:
                        expected.append((number, p))
                items = run_round(items, start, number)[0]
            self.assert_exact(harmful_losses(row, start), tuple(expected))

    def test_rows_without_harmful_losses(self):
        for row in ((7,), (1, 2), SORTED_24):
            for start in STARTS:
                self.assert_exact(harmful_losses(row, start), ())

    def test_a_loss_that_is_not_harmful_although_it_changes_the_run(self):
        row = (2, 1, 5, 4, 3)
        self.assertNotEqual(run_with_losses(row, 0, ((1, 0),), 1), run_rows(row, 0, 1)[-1])
        self.assertEqual(lossy_needed(row, 0, ((1, 0),)), run_needed(row, 0))
        self.assertNotIn((1, 0), harmful_losses(row, 0))
