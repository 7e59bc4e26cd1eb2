"""Points 89 to 98: rows with equal keys."""

import itertools

from oddrounds.bounds import MAX_KEY
from oddrounds.delays import needed_rounds
from oddrounds.errors import NoThreshold
from oddrounds.ties import is_tied_row, item_origins, standard_form, tied_after_rounds, tied_certificate
from oddrounds.ties import tied_certificate_holds, tied_delays, tied_inversions, tied_needed_rounds
from tests.checks import BIG, OTHER_VALUES, SAMPLE_ROWS, ExactCase
from tests.running import defined_wait, heaviness, run_exchanges, run_needed, run_rows, zeros

STARTS = (0, 1)
ROW = (2, 1, 2, 1)
SHORT_ROWS = tuple(
    row for size in range(1, 6) for row in itertools.product((0, 1, MAX_KEY), repeat=size)
)
LONG_ROWS = (
    (7,) * 24, (0,) * 23, (1,) * 12 + (0,) * 12, (0,) * 12 + (1,) * 12, (1, 0) * 12, (0, 1) * 12,
    tuple(place * 7 % 4 for place in range(24)), tuple(place * place % 5 for place in range(23)),
    tuple(9 - place // 3 for place in range(24)), tuple(place // 2 for place in range(24)),
    tuple((place * 11 + place // 5) % 6 * 10 ** 11 for place in range(24)),
    tuple(23 - place for place in range(24)), (5, 5, 3, 3, 3, 1, 1, 5, 0),
)
ROWS = (*SHORT_ROWS, *LONG_ROWS, *SAMPLE_ROWS)


def defined_delays(row, start, threshold):
    """Return a list of (place, delay) of all light keys that are not home."""
    places = zeros(heaviness(row, threshold))
    found = []
    for j, p in enumerate(places):
        if p != j:
            delay = p - j + defined_wait(len(row), start, p) + len(places) - 1 - j
            found.append((p, delay))
    return found


def late_pairs(row, start, rounds):
    """Return all (threshold, place) of light keys whose delay is greater than rounds."""
    found = []
    for threshold in sorted(set(row))[:-1]:
        for place, delay in defined_delays(row, start, threshold):
            if delay > rounds:
                found.append((threshold, place))
    return found


class ExamplesTest(ExactCase):
    def test_is_tied_row(self):
        results = [is_tied_row((2, 1, 2)), is_tied_row(()), is_tied_row((2, True))]
        self.assert_exact(results, [True, False, False])

    def test_standard_form(self):
        self.assert_exact([standard_form(ROW), standard_form((7, 7))], [(2, 0, 3, 1), (0, 1)])

    def test_tied_after_rounds(self):
        results = [tied_after_rounds(ROW, 0, 1), tied_after_rounds(ROW, 0, 2)]
        self.assert_exact(results, [(1, 2, 1, 2), (1, 1, 2, 2)])

    def test_item_origins(self):
        self.assert_exact(item_origins(ROW, 0, 2), (1, 3, 0, 2))

    def test_tied_inversions(self):
        self.assert_exact([tied_inversions(ROW), tied_inversions((1, 1))], [3, 0])

    def test_tied_delays(self):
        self.assert_exact(tied_delays(ROW, 0, 1), ((1, 2), (3, 2)))
        self.assert_error(NoThreshold, {"value": 2}, tied_delays, ROW, 0, 2)

    def test_tied_needed_rounds(self):
        results = [tied_needed_rounds(ROW, 0), tied_needed_rounds(ROW, 1), tied_needed_rounds((5, 5), 0)]
        self.assert_exact(results, [2, 3, 0])

    def test_tied_certificate(self):
        results = [tied_certificate(ROW, 0, 2), tied_certificate((2, 1, 2), 0, 0)]
        self.assert_exact(results, [("sorted",), ("late", 1, 1)])

    def test_tied_certificate_holds(self):
        results = [tied_certificate_holds(ROW, 0, 1, ("late", 1, place)) for place in (3, 0)]
        self.assert_exact(results, [True, False])


class IsTiedRowTest(ExactCase):
    def test_tied_rows(self):
        for row in (*ROWS, (0,), (MAX_KEY,), (MAX_KEY,) * 24):
            self.assert_exact(is_tied_row(row), True)

    def test_other_values(self):
        wrong = (
            (), (1,) * 25, (-1,), (1, -1), (MAX_KEY + 1,), (1, BIG), (True,), (False,), (1, True),
            (0, False), (1, None), (1, "1"), ("1",), (1, (1,)), ((1, 1),), (1, [1]), [1, 1], [1],
            {"a": 1}, "1 1", 1, 0, BIG, None,
        )
        for value in wrong:
            self.assert_exact(is_tied_row(value), False)

    def test_other_kinds(self):
        for value in OTHER_VALUES:
            self.assert_exact(is_tied_row(value), value in ((1,), (10, 30)))


class RunningTest(ExactCase):
    """Tied rows against running pair after pair."""

    def test_standard_form(self):
        for row in ROWS:
            order = sorted(range(len(row)), key=lambda place: row[place])
            expected = tuple(order.index(place) for place in range(len(row)))
            self.assert_exact(standard_form(row), expected)

    def test_rounds(self):
        for row, start in itertools.product(ROWS, STARTS):
            # Items that know their places show where each of them goes.
            tagged = [(key, place) for place, key in enumerate(row)]
            rounds = len(row) + 2
            rows = run_rows(row, start, rounds)
            forms = run_rows(standard_form(row), start, rounds)
            for number, items in enumerate(run_rows(tagged, start, rounds)):
                # Equal keys with ascending places are never exchanged.
                self.assertEqual(tuple(key for key, place in items), rows[number])
                self.assert_exact(tied_after_rounds(row, start, number), rows[number])
                origins = tuple(place for key, place in items)
                self.assert_exact(item_origins(row, start, number), origins)
                self.assertEqual(forms[number], tuple(standard_form(row)[p] for p in origins))

    def test_100_rounds(self):
        for row, start in itertools.product(LONG_ROWS, STARTS):
            self.assert_exact(tied_after_rounds(row, start, 100), tuple(sorted(row)))
            order = tuple(sorted(range(len(row)), key=lambda place: row[place]))
            self.assert_exact(item_origins(row, start, 100), order)

    def test_equal_keys_never_overtake_each_other(self):
        for row, start in itertools.product(LONG_ROWS, STARTS):
            for rounds in (0, 1, 2, 7, 24):
                origins = item_origins(row, start, rounds)
                for key in set(row):
                    places = [place for place in origins if row[place] == key]
                    self.assertEqual(places, sorted(places))

    def test_tied_inversions(self):
        for row in ROWS:
            pairs = [1 for one, other in itertools.combinations(row, 2) if one > other]
            self.assert_exact(tied_inversions(row), len(pairs))
            for start in STARTS:
                self.assertEqual(run_exchanges(row, start, len(row)), len(pairs))

    def test_tied_needed_rounds(self):
        for row, start in itertools.product(ROWS, STARTS):
            needed = run_needed(row, start)
            self.assert_exact(tied_needed_rounds(row, start), needed)
            self.assertEqual(needed_rounds(standard_form(row), start), needed)

    def test_all_equal_keys_need_nothing(self):
        for size, start in itertools.product(range(1, 25), STARTS):
            row = (5,) * size
            self.assert_exact(tied_needed_rounds(row, start), 0)
            self.assert_exact(tied_inversions(row), 0)
            self.assert_exact(standard_form(row), tuple(range(size)))
            self.assert_exact(tied_certificate(row, start, 0), ("sorted",))


class TiedDelaysTest(ExactCase):
    def test_the_definition(self):
        for row, start in itertools.product(ROWS, STARTS):
            for threshold in sorted(set(row))[:-1]:
                expected = tuple(defined_delays(row, start, threshold))
                self.assert_exact(tied_delays(row, start, threshold), expected)

    def test_the_greatest_delay_is_the_needed_rounds(self):
        for row, start in itertools.product(ROWS, STARTS):
            delays = [0]
            for threshold in sorted(set(row))[:-1]:
                delays.extend([delay for place, delay in tied_delays(row, start, threshold)])
            self.assertEqual(max(delays), run_needed(row, start))

    def test_values_that_are_no_thresholds(self):
        for row in (ROW, (1, 0, 1, 0), (0, 0, 1), (5, 5), (1,), (7,) * 24, LONG_ROWS[6]):
            wrong = (max(row), max(row) + 1, -1, 6, 99, BIG, -BIG, str(row[0]), (row[0],), [row[0]])
            for value in (*OTHER_VALUES, *wrong):
                for start in STARTS:
                    self.assert_error(NoThreshold, {"value": value}, tied_delays, row, start, value)

    def test_the_error_has_the_very_value(self):
        for value in ([1], {"a": [1]}):
            with self.assertRaises(NoThreshold) as caught:
                tied_delays(ROW, 0, value)
            self.assertIs(caught.exception.value, value)


class TiedCertificateTest(ExactCase):
    def test_the_right_kind_for_all_rounds(self):
        for row, start in itertools.product(ROWS, STARTS):
            needed = run_needed(row, start)
            for rounds in (*range(len(row) + 2), 100):
                result = tied_certificate(row, start, rounds)
                if needed <= rounds:
                    self.assert_exact(result, ("sorted",))
                else:
                    word, threshold, place = result
                    self.assert_exact(result, ("late", int(threshold), int(place)))
                    self.assertIn((threshold, place), late_pairs(row, start, rounds))
                self.assert_exact(tied_certificate_holds(row, start, rounds, result), True)

    def test_exactly_the_late_keys_hold(self):
        rows = (*SHORT_ROWS[:120], *LONG_ROWS[2:9])
        for row, start in itertools.product(rows, STARTS):
            for rounds in (0, 1, 2, len(row) - 1, len(row)):
                late = late_pairs(row, start, rounds)
                for threshold in {*row, -1, 3}:
                    for place in range(-1, len(row) + 1):
                        value = ("late", threshold, place)
                        expected = (threshold, place) in late
                        result = tied_certificate_holds(row, start, rounds, value)
                        self.assert_exact(result, expected)
                expected = run_needed(row, start) <= rounds
                self.assert_exact(tied_certificate_holds(row, start, rounds, ("sorted",)), expected)

    def test_changed_certificates(self):
        row = (1, 2, 0, 1, 0)
        right = [("late", *pair) for pair in late_pairs(row, 0, 1)]
        self.assertIn(("late", 0, 2), right)
        for value in right:
            word, threshold, place = value
            changed = (
                list(value), value[1:], value[:2], (word,), (*value, 0), (*value, None), (threshold, place),
                ("Late", threshold, place), ("sorted", threshold, place), (None, threshold, place),
                (word, str(threshold), place), (word, threshold, str(place)), (word, [threshold], place),
                (word, threshold, (place,)), (word, None, place), (word, threshold, None),
                (word, place, threshold, place), (word, (threshold, place)), {"late": 1}, "late",
                (word, threshold - 5, place), (word, threshold, place + 9), (word, threshold, BIG),
                (word, BIG, place), ((word, threshold, place),),
            )
            for item in changed:
                self.assert_exact(tied_certificate_holds(row, 0, 1, item), False)

    def test_bools_are_no_integers(self):
        row = (2, 0, 2, 1)
        for value in (("late", 0, 1), ("late", 1, 1), ("late", 1, 3)):
            self.assert_exact(tied_certificate_holds(row, 0, 0, value), True)
        for value in (("late", False, 1), ("late", 0, True), ("late", True, 3), ("late", True, True)):
            self.assert_exact(tied_certificate_holds(row, 0, 0, value), False)

    def test_values_of_other_kinds(self):
        for row in ((1, 1), (2, 1, 2), (7,) * 24):
            for rounds in (0, 100):
                for value in (*OTHER_VALUES, "sorted", ["sorted"], ("sorted", None), ("Sorted",), 0, 1, BIG):
                    self.assert_exact(tied_certificate_holds(row, 0, rounds, value), False)
