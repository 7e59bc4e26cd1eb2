"""Point 2: the guarantees (a) to (h) and (j) over the whole program.

Guarantee (i), about runners, stands in test_batches and test_runners.
"""

import itertools
import random

from oddrounds.delays import certificate, certificate_holds, delays, exchange_path, exchange_path_holds
from oddrounds.delays import is_within, needed_rounds, threshold_rounds
from oddrounds.losses import are_losses, first_lag, idle_pairs, needed_with_losses, run_with_losses
from oddrounds.places import place_after
from oddrounds.rounds import after_rounds, count_exchanges
from oddrounds.rows import inversions, mirror, thresholds
from oddrounds.ties import item_origins, standard_form, tied_certificate, tied_certificate_holds
from oddrounds.ties import tied_needed_rounds
from tests.checks import SAMPLE_ROWS, ExactCase
from tests.running import is_sorted, pairs_of_round, run_needed, run_rows

STARTS = (0, 1)


def shuffled_rows():
    """Return one row of each number of places, always the same ones."""
    chance = random.Random(20)
    return [tuple(chance.sample(range(10 ** 6), size)) for size in range(1, 25)]


ROWS = (*SAMPLE_ROWS, *shuffled_rows())
ALL = tuple(itertools.product(ROWS, STARTS))


def some_rounds(row):
    """Return several numbers of rounds, fewer for long rows, for which each check takes longer."""
    if len(row) > 8:
        return (len(row) // 2, len(row))
    return (0, 1, 2, len(row) // 2, len(row) - 1, len(row), 100)


class CertificatesTest(ExactCase):
    def test_a_exactly_one_kind_of_certificate_exists(self):
        for row, start in ALL:
            for rounds in some_rounds(row):
                late = [
                    pair for pair in itertools.product(thresholds(row), range(len(row)))
                    if certificate_holds(row, start, rounds, ("late", *pair))
                ]
                ordered = certificate_holds(row, start, rounds, ("sorted",))
                self.assertIs(ordered, is_sorted(run_rows(row, start, rounds)[-1]))
                self.assertIs(ordered, late == [])
                made = certificate(row, start, rounds)
                self.assertTrue(certificate_holds(row, start, rounds, made))
                self.assertEqual(made == ("sorted",), ordered)

    def test_b_the_needed_rounds_are_the_greatest_delay(self):
        for row, start in ALL:
            found = [0]
            for threshold in thresholds(row):
                found.extend([delay for delay in delays(row, start, threshold) if delay is not None])
            needed = needed_rounds(row, start)
            self.assertEqual(needed, max(found))
            self.assertEqual(needed, run_needed(row, start))
            self.assertLessEqual(needed, len(row))
            self.assertLessEqual(abs(needed - needed_rounds(row, 1 - start)), 1)

    def test_c_the_places_follow_without_running(self):
        for row, start in ALL:
            for rounds in (0, 1, 3, len(row) // 2, len(row)):
                after = run_rows(row, start, rounds)[-1]
                self.assertEqual([place_after(row, start, key, rounds) for key in after], list(range(len(row))))


class OrdersTest(ExactCase):
    def test_d_mirrored_rows(self):
        for row, start in ALL:
            other = start if len(row) % 2 == 0 else 1 - start
            self.assertEqual(needed_rounds(mirror(row), other), needed_rounds(row, start))

    def test_d_a_greatest_key_at_the_end(self):
        for row, start in ALL:
            if len(row) < 24 and max(row) < 10 ** 12:
                longer = (*row, max(row) + 1)
                self.assertEqual(needed_rounds(longer, start), needed_rounds(row, start))
                for rounds in (1, 2, len(row)):
                    after = after_rounds(row, start, rounds)
                    self.assertEqual(after_rounds(longer, start, rounds), (*after, longer[-1]))

    def test_e_exchanges_of_neighbours_before_the_first_round(self):
        for row, start in ALL:
            needed = needed_rounds(row, start)
            for p in range(len(row) - 1):
                if row[p] > row[p + 1]:
                    other = (*row[:p], row[p + 1], row[p], *row[p + 2:])
                    self.assertLessEqual(needed_rounds(other, start), needed)
                    self.assertTrue(is_within(other, row))

    def test_e_fewer_inversions(self):
        chance = random.Random(3)
        for row, start in ALL:
            other = row
            for step in range(10):
                descending = [p for p in range(len(row) - 1) if other[p] > other[p + 1]]
                if descending:
                    p = chance.choice(descending)
                    other = (*other[:p], other[p + 1], other[p], *other[p + 2:])
            self.assertTrue(set(inversions(other)) <= set(inversions(row)))
            self.assertTrue(is_within(other, row))
            self.assertLessEqual(needed_rounds(other, start), needed_rounds(row, start))
            path = exchange_path(other, row)
            self.assertTrue(exchange_path_holds(other, row, path))
            found = [needed_rounds(item, start) for item in path]
            self.assertEqual(found, sorted(found, reverse=True))

    def test_e_all_pairs_of_rows_of_four_keys(self):
        rows = list(itertools.permutations(range(4)))
        for one, other in itertools.product(rows, rows):
            if set(inversions(one)) <= set(inversions(other)):
                for start in STARTS:
                    self.assertLessEqual(needed_rounds(one, start), needed_rounds(other, start))

    def test_f_exchanges_and_inversions(self):
        for row, start in ALL:
            for rounds in (len(row), 100):
                self.assertEqual(count_exchanges(row, start, rounds), len(inversions(row)))


class LossesTest(ExactCase):
    def test_g_losses_never_help(self):
        chance = random.Random(8)
        for row, start in ALL:
            rounds = len(row) + 4
            pairs = [(r, p) for r in range(1, rounds + 1) for p in pairs_of_round(len(row), start, r)]
            losses = tuple(sorted(chance.sample(pairs, min(len(pairs), 30))))
            self.assertTrue(are_losses(row, start, losses))
            for number in (0, 1, 2, 5, rounds):
                lossy = run_with_losses(row, start, losses, number)
                self.assertIsNone(first_lag(after_rounds(row, start, number), lossy))
            self.assertGreaterEqual(needed_with_losses(row, start, losses), needed_rounds(row, start))

    def test_g_idle_pairs_can_be_lost(self):
        for row, start in ALL:
            losses = idle_pairs(row, start, len(row))[:100]
            for number in (0, 1, 2, 5, len(row)):
                result = run_with_losses(row, start, losses, number)
                self.assertEqual(result, after_rounds(row, start, number))
            self.assertEqual(needed_with_losses(row, start, losses), needed_rounds(row, start))


class TiesTest(ExactCase):
    def test_h_equal_keys(self):
        for row, start in ALL:
            for kinds in (1, 2, 3, 5):
                tied = tuple(key % kinds for key in row)
                needed = tied_needed_rounds(tied, start)
                self.assertEqual(needed, needed_rounds(standard_form(tied), start))
                self.assertEqual(needed, run_needed(tied, start))
                origins = item_origins(tied, start, 5)
                for key in range(kinds):
                    places = [place for place in origins if tied[place] == key]
                    self.assertEqual(places, sorted(places))


class CheckingTest(ExactCase):
    """Guarantee (j): whatever a checking function accepts is correct."""

    def test_j_certificates(self):
        for row, start in ALL:
            for rounds in some_rounds(row):
                ordered = is_sorted(run_rows(row, start, rounds)[-1])
                values = [("late", *pair) for pair in itertools.product((*row, -1, True), range(-1, len(row) + 1))]
                for value in [("sorted",), *values]:
                    if certificate_holds(row, start, rounds, value):
                        self.assertEqual(value == ("sorted",), ordered)
                        if not ordered:
                            # The light keys are not at the first places after the rounds.
                            self.assertGreater(threshold_rounds(row, start, value[1]), rounds)
                            self.assertLessEqual(row[value[2]], value[1])

    def test_j_tied_certificates(self):
        for row, start in ALL:
            tied = tuple(key % 3 for key in row)
            for rounds in (0, 1, len(row) - 1):
                ordered = is_sorted(run_rows(tied, start, rounds)[-1])
                values = [("late", *pair) for pair in itertools.product(range(-1, 4), range(-1, len(row) + 1))]
                for value in [("sorted",), tied_certificate(tied, start, rounds), *values]:
                    if tied_certificate_holds(tied, start, rounds, value):
                        self.assertEqual(value == ("sorted",), ordered)

    def test_j_exchange_paths(self):
        rows = list(itertools.permutations((1, 2, 3)))
        for length in (1, 2, 3):
            for value in itertools.product(rows, repeat=length):
                for one, other in itertools.product(rows, rows):
                    if exchange_path_holds(one, other, value):
                        self.assertEqual((value[0], value[-1]), (other, one))
                        self.assertTrue(set(inversions(one)) <= set(inversions(other)))
                        self.assertEqual(len(inversions(other)) - len(inversions(one)), length - 1)
