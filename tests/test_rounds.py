"""Points 13 to 19: rounds."""

from oddrounds.bounds import MAX_KEY
from oddrounds.rounds import after_round, after_rounds, compared_places, count_exchanges
from oddrounds.rounds import exchanged_places, history
from oddrounds.rows import inversions
from tests.checks import MIXED_24, REVERSED_24, SAMPLE_ROWS, SORTED_24, ExactCase, small_rows
from tests.running import pairs_of_round, run_exchanges, run_round, run_rows

ALL_ROWS = (*SAMPLE_ROWS, *small_rows())
NUMBERS = (1, 2, 3, 99, 100)


class ComparedPlacesTest(ExactCase):
    def test_example(self):
        results = [compared_places(5, 0, 1), compared_places(5, 0, 2), compared_places(1, 0, 1)]
        self.assert_exact(results, [(0, 2), (1, 3), ()])

    def test_one_place(self):
        for start in (0, 1):
            for number in NUMBERS:
                self.assert_exact(compared_places(1, start, number), ())

    def test_two_places(self):
        self.assert_exact([compared_places(2, 0, number) for number in (1, 2, 99, 100)], [(0,), (), (0,), ()])
        self.assert_exact([compared_places(2, 1, number) for number in (1, 2, 99, 100)], [(), (0,), (), (0,)])

    def test_three_places(self):
        self.assert_exact([compared_places(3, 0, number) for number in (1, 2)], [(0,), (1,)])
        self.assert_exact([compared_places(3, 1, number) for number in (1, 2)], [(1,), (0,)])

    def test_twenty_four_places(self):
        for start, number in ((0, 1), (0, 99), (1, 2), (1, 100)):
            self.assert_exact(compared_places(24, start, number), tuple(range(0, 23, 2)))
        for start, number in ((1, 1), (1, 99), (0, 2), (0, 100)):
            self.assert_exact(compared_places(24, start, number), tuple(range(1, 22, 2)))

    def test_all_numbers_of_places(self):
        for n in range(1, 25):
            for start in (0, 1):
                for number in range(1, 101):
                    pairs = tuple(
                        p for p in range(n) if (p + start + number) % 2 == 1 and p + 1 < n
                    )
                    self.assert_exact(compared_places(n, start, number), pairs)
                    self.assertEqual(list(pairs), pairs_of_round(n, start, number))


class OneRoundTest(ExactCase):
    def test_example_of_exchanged_places(self):
        row = (4, 3, 2, 1)
        results = [exchanged_places(row, 0, 1), exchanged_places(row, 0, 2)]
        self.assert_exact(results, [(0, 2), (1,)])

    def test_example_of_after_round(self):
        row = (4, 3, 2, 1)
        self.assert_exact([after_round(row, 0, 1), after_round(row, 0, 2)], [(3, 4, 1, 2), (4, 2, 3, 1)])

    def test_short_rows(self):
        for start in (0, 1):
            for number in NUMBERS:
                self.assert_exact(exchanged_places((7,), start, number), ())
                self.assert_exact(after_round((7,), start, number), (7,))
                self.assert_exact(after_round((0, MAX_KEY), start, number), (0, MAX_KEY))
        self.assert_exact([after_round((9, 4), 0, 1), after_round((9, 4), 0, 2)], [(4, 9), (9, 4)])
        self.assert_exact([after_round((9, 4), 1, 1), after_round((9, 4), 1, 2)], [(9, 4), (4, 9)])
        self.assert_exact([after_round((3, 2, 1), 0, 99), after_round((3, 2, 1), 0, 100)], [(2, 3, 1), (3, 1, 2)])

    def test_only_descending_pairs_are_exchanged(self):
        row = (1, 0, 2, 3, 5, 4)
        self.assert_exact(exchanged_places(row, 0, 1), (0, 4))
        self.assert_exact(after_round(row, 0, 1), (0, 1, 2, 3, 4, 5))
        self.assert_exact(exchanged_places(row, 1, 1), ())
        self.assert_exact(after_round(row, 1, 1), row)

    def test_against_running_pair_after_pair(self):
        for row in ALL_ROWS:
            for start in (0, 1):
                for number in NUMBERS:
                    after, exchanged = run_round(row, start, number)
                    places = exchanged_places(row, start, number)
                    self.assert_exact(after_round(row, start, number), after)
                    self.assertEqual(len(places), exchanged)
                    expected = [p for p in pairs_of_round(len(row), start, number) if row[p] > row[p + 1]]
                    self.assert_exact(places, tuple(expected))


class ManyRoundsTest(ExactCase):
    def test_example_of_after_rounds(self):
        row = (4, 3, 2, 1)
        results = [after_rounds(row, 0, 0), after_rounds(row, 0, 2), after_rounds(row, 0, 4)]
        self.assert_exact(results, [(4, 3, 2, 1), (3, 1, 4, 2), (1, 2, 3, 4)])

    def test_example_of_history(self):
        expected = ((3, 2, 1), (2, 3, 1), (2, 1, 3), (1, 2, 3))
        self.assert_exact(history((3, 2, 1), 0, 3), expected)

    def test_example_of_count_exchanges(self):
        results = [count_exchanges((3, 2, 1), 0, 2), count_exchanges((3, 2, 1), 0, 100)]
        self.assert_exact(results, [2, 3])

    def test_no_rounds(self):
        for row in ALL_ROWS:
            for start in (0, 1):
                self.assert_exact(after_rounds(row, start, 0), row)
                self.assert_exact(history(row, start, 0), (row,))
                self.assert_exact(count_exchanges(row, start, 0), 0)

    def test_rounds_that_exchange_nothing_count(self):
        self.assert_exact(history((2, 1), 1, 3), ((2, 1), (2, 1), (1, 2), (1, 2)))
        self.assert_exact(history((7,), 0, 2), ((7,), (7,), (7,)))
        self.assert_exact([count_exchanges((2, 1), 1, 1), count_exchanges((2, 1), 1, 2)], [0, 1])

    def test_as_many_rounds_as_places_sort_the_row(self):
        for row in ALL_ROWS:
            for start in (0, 1):
                for rounds in (len(row), len(row) + 1, 100):
                    self.assert_exact(after_rounds(row, start, rounds), tuple(sorted(row)))

    def test_against_running_pair_after_pair(self):
        for row in ALL_ROWS:
            for start in (0, 1):
                rows = run_rows(row, start, len(row) + 2)
                for rounds in range(len(row) + 3):
                    self.assert_exact(after_rounds(row, start, rounds), rows[rounds])
                    self.assert_exact(history(row, start, rounds), tuple(rows[:rounds + 1]))
                    exchanges = run_exchanges(row, start, rounds)
                    self.assert_exact(count_exchanges(row, start, rounds), exchanges)

    def test_a_hundred_rounds(self):
        for row in ((7,), (2, 1), (50, 10, 30), SORTED_24, REVERSED_24, MIXED_24):
            for start in (0, 1):
                rows = run_rows(row, start, 100)
                self.assertEqual(len(rows), 101)
                self.assert_exact(history(row, start, 100), tuple(rows))

    def test_all_rounds_make_as_many_exchanges_as_there_are_inversions(self):
        for row in ALL_ROWS:
            for start in (0, 1):
                many = len(inversions(row))
                self.assert_exact(count_exchanges(row, start, len(row)), many)
                self.assert_exact(count_exchanges(row, start, 100), many)

    def test_somewhat_more_rounds_than_the_limit_are_no_error(self):
        self.assert_exact(after_rounds((3, 2, 1), 0, 101), (1, 2, 3))
        self.assert_exact(len(history((3, 2, 1), 0, 110)), 111)
        self.assert_exact(count_exchanges((3, 2, 1), 0, 101), 3)
        self.assert_exact(compared_places(25, 0, 101), tuple(range(0, 24, 2)))
