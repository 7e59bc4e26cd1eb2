"""Points 47 to 51: light keys of patterns after any number of rounds."""

import itertools

from oddrounds.bounds import MAX_LENGTH, MAX_RUNS
from oddrounds.errors import NoIndex, NoPlace, TooMany
from oddrounds.patterns import is_pattern, light_arrival, light_before, light_place, light_total
from oddrounds.patterns import pattern_after, pattern_rounds
from tests.checks import BIG, OTHER_VALUES, ExactCase
from tests.running import expanded, is_sorted, run_rows, runs_of, zeros

# All rows of up to 7 places, and some with more and longer runs.
SHORT = tuple(
    runs_of(marks) for size in range(1, 8) for marks in itertools.product((0, 1), repeat=size)
)
LONGER = (
    (9, 8), (8, 9), (12, 3, 1, 2, 6), (0, 4, 1, 1, 7, 5, 2), (3, 1, 4, 1, 5, 9, 2, 6, 5, 3),
    (1,) * 20, (0, *[1] * 19), (2, 1) * 10, (1, 2) * 10, (0, 3, *[2, 1] * 9), (15, 15), (0, 1, 20, 12),
)
RUNS = tuple((pattern, start) for pattern in (*SHORT, *LONGER) for start in (0, 1))
HUGE = (0, 10 ** 11, 3, 10 ** 11, 2 * 10 ** 11, 5, 10 ** 11 + 1, 4, 7)
# Each with a number of places that can be put before or behind it.
MOVED = ((3, 2, 2, 1), (4, 3), (1, 1, 1, 2, 5, 3), (2, 6, 1))


def run_pattern(pattern, start):
    """Return the rows of a pattern up to a little beyond the last round that matters."""
    return run_rows(expanded(pattern), start, sum(pattern) + 3)


class PatternRoundsTest(ExactCase):
    def test_example(self):
        results = [
            pattern_rounds((1, 2), 0), pattern_rounds((1, 2), 1),
            pattern_rounds((10 ** 11, 10 ** 11), 0),
        ]
        self.assert_exact(results, [2, 3, 200000000000])

    def test_against_running(self):
        for pattern, start in RUNS:
            rows = run_pattern(pattern, start)
            needed = min([at for at, row in enumerate(rows) if is_sorted(row)])
            self.assert_exact(pattern_rounds(pattern, start), needed)

    def test_patterns_that_are_home(self):
        for pattern in ((7,), (0, 7), (0, 5, 1), (10 ** 12,), (0, 10 ** 12), (0, 1, 10 ** 12 - 1)):
            for start in (0, 1):
                self.assert_exact(pattern_rounds(pattern, start), 0)

    def test_long_patterns(self):
        half = 5 * 10 ** 11
        self.assert_exact([pattern_rounds((half, half), 0), pattern_rounds((half, half), 1)], [10 ** 12, 10 ** 12 - 1])
        self.assert_exact(pattern_rounds((half - 1, half + 1), 0), 10 ** 12 - 1)
        self.assert_exact(pattern_rounds((half - 1, half + 1), 1), 10 ** 12)
        self.assert_exact(pattern_rounds((10 ** 12 - 1, 1), 0), 10 ** 12 - 1)
        self.assert_exact(pattern_rounds((10 ** 12 - 1, 1), 1), 10 ** 12)
        self.assert_exact(pattern_rounds((1, 10 ** 12 - 1), 0), 10 ** 12 - 1)
        self.assert_exact(pattern_rounds((1, half, 1, 1), 0), half + 1)


class LightPlaceTest(ExactCase):
    def test_example(self):
        self.assert_exact([light_place((1, 2), 0, 1, 1), light_place((1, 2), 0, 1, 2)], [2, 1])
        self.assert_error(NoIndex, {"index": 2}, light_place, (1, 2), 0, 2, 1)

    def test_against_running(self):
        for pattern, start in RUNS:
            for rounds, row in enumerate(run_pattern(pattern, start)):
                for index, place in enumerate(zeros(row)):
                    self.assert_exact(light_place(pattern, start, index, rounds), place)

    def test_after_all_rounds_each_light_key_is_home(self):
        for pattern, start in RUNS:
            for index in range(light_total(pattern)):
                self.assert_exact(light_place(pattern, start, index, MAX_LENGTH), index)

    def test_two_long_runs(self):
        heavy = 3 * 10 ** 11
        light = 7 * 10 ** 11
        for start in (0, 1):
            # The first light key is compared in round 1 or 2, each next one moves a round later.
            wait = 1 - start
            for index in (0, 1, 2, 10 ** 6, 10 ** 11, light - 1):
                for rounds in (0, 1, 2, 10 ** 6, 10 ** 11, heavy, light, MAX_LENGTH):
                    steps = min(heavy, max(0, rounds - index - wait))
                    place = heavy + index - steps
                    self.assert_exact(light_place((heavy, light), start, index, rounds), place)

    def test_many_light_keys_before_a_short_pattern(self):
        for pattern in MOVED:
            many = MAX_LENGTH - 2 * sum(pattern)
            for start in (0, 1):
                for rounds, row in enumerate(run_pattern(pattern, start)):
                    for index, place in enumerate(zeros(row)):
                        result = light_place((0, many, *pattern), start, many + index, rounds)
                        self.assert_exact(result, many + place)

    def test_many_heavy_keys_before_a_short_pattern(self):
        for pattern in MOVED:
            many = MAX_LENGTH - 2 * sum(pattern)
            moved = (pattern[0] + many, *pattern[1:])
            for start in (0, 1):
                # Nothing has come to the end of the first run so far.
                for rounds, row in enumerate(run_pattern(pattern, start)[:pattern[0] + 1]):
                    for index, place in enumerate(zeros(row)):
                        result = light_place(moved, start, index, rounds)
                        self.assert_exact(result, many + place)


class LightArrivalTest(ExactCase):
    def test_example(self):
        results = [light_arrival((1, 2), 0, 0), light_arrival((1, 2), 0, 1), light_arrival((0, 5, 1), 0, 3)]
        self.assert_exact(results, [1, 2, 0])

    def test_against_running(self):
        for pattern, start in RUNS:
            paths = zip(*[zeros(row) for row in run_pattern(pattern, start)])
            for index, path in enumerate(paths):
                self.assert_exact(light_arrival(pattern, start, index), path.index(index))

    def test_long_patterns(self):
        half = 5 * 10 ** 11
        for index in (0, 1, 2, 10 ** 11, half - 1):
            self.assert_exact(light_arrival((half, half), 0, index), half + 1 + index)
            self.assert_exact(light_arrival((half, half), 1, index), half + index)
            self.assert_exact(light_arrival((0, half, half), 1, index), 0)
        for index in (0, 10 ** 11 - 1, 10 ** 11, 2 * 10 ** 11 - 1, 2 * 10 ** 11, light_total(HUGE) - 1):
            for start in (0, 1):
                rounds = light_arrival(HUGE, start, index)
                self.assert_exact(light_place(HUGE, start, index, rounds), index)
                if rounds > 0:
                    self.assert_exact(light_place(HUGE, start, index, rounds - 1), index + 1)
        self.assert_exact(light_arrival(HUGE, 0, light_total(HUGE) - 1), pattern_rounds(HUGE, 0))


class LightBeforeTest(ExactCase):
    def test_example(self):
        results = [light_before((1, 2), 0, 1, 0), light_before((1, 2), 0, 1, 1), light_before((1, 2), 0, 3, 0)]
        self.assert_exact(results, [0, 1, 2])
        self.assert_error(NoPlace, {"value": 4}, light_before, (1, 2), 0, 4, 0)

    def test_against_running(self):
        for pattern, start in RUNS:
            for rounds, row in enumerate(run_pattern(pattern, start)):
                for place in range(len(row) + 1):
                    expected = row[:place].count(0)
                    self.assert_exact(light_before(pattern, start, place, rounds), expected)

    def test_long_patterns(self):
        total = light_total(HUGE)
        length = sum(HUGE)
        for start in (0, 1):
            for rounds in (0, 1, 2, 10 ** 6, 10 ** 11, 3 * 10 ** 11, MAX_LENGTH):
                self.assert_exact(light_before(HUGE, start, 0, rounds), 0)
                self.assert_exact(light_before(HUGE, start, length, rounds), total)
                for index in (0, 10 ** 11, 10 ** 11 + 1, 150000000001, 2 * 10 ** 11 + 2, total - 1):
                    place = light_place(HUGE, start, index, rounds)
                    self.assert_exact(light_before(HUGE, start, place, rounds), index)
                    self.assert_exact(light_before(HUGE, start, place + 1, rounds), index + 1)
        self.assert_exact(light_before((10 ** 12,), 0, 10 ** 12, 5), 0)
        self.assert_exact(light_before((0, 10 ** 12), 0, 10 ** 12 - 1, 5), 10 ** 12 - 1)


class PatternAfterTest(ExactCase):
    def test_example(self):
        self.assert_exact([pattern_after((1, 2), 0, 1), pattern_after((1, 2), 0, 2)], [(0, 1, 1, 1), (0, 2, 1)])
        self.assert_error(TooMany, {"limit": 20}, pattern_after, (100, 100), 0, 50)

    def test_against_running(self):
        seen = []
        for pattern, start in (*RUNS, ((40, 40), 0), ((40, 40), 1), ((19, 21), 0)):
            for rounds, row in enumerate(run_pattern(pattern, start)):
                runs = runs_of(row)
                seen.append(len(runs))
                if len(runs) <= MAX_RUNS:
                    self.assert_exact(pattern_after(pattern, start, rounds), runs)
                else:
                    self.assert_error(TooMany, {"limit": 20}, pattern_after, pattern, start, rounds)
        # Both sides of the limit occur.
        for many in (19, 20, 21, 22):
            self.assertIn(many, seen)

    def test_an_empty_first_run_counts(self):
        self.assert_exact(pattern_after((1,) * 20, 1, 0), (1,) * 20)
        self.assertEqual(runs_of(run_rows(expanded((1,) * 20), 0, 1)[1]), (0, *[1] * 20))
        self.assert_error(TooMany, {"limit": 20}, pattern_after, (1,) * 20, 0, 1)

    def test_no_rounds_and_all_rounds(self):
        for pattern in (*SHORT, *LONGER, HUGE, (10 ** 12,), (0, 10 ** 12)):
            lights = light_total(pattern)
            heavy = sum(pattern) - lights
            goal = (0, lights, heavy) if lights > 0 and heavy > 0 else (0, lights) if heavy == 0 else (heavy,)
            for start in (0, 1):
                self.assert_exact(pattern_after(pattern, start, 0), pattern)
                self.assert_exact(pattern_after(pattern, start, MAX_LENGTH), goal)

    def test_a_few_light_keys_that_come_from_far(self):
        far = 10 ** 12 - 3
        # The place far is odd, so with start 0 the first light key moves in round 1.
        self.assert_exact(pattern_after((far, 3), 0, 1), (far - 1, 1, 1, 2))
        self.assert_exact(pattern_after((far, 3), 0, 2), (far - 2, 1, 1, 1, 1, 1))
        self.assert_exact(pattern_after((far, 3), 0, 1000), (far - 1000, 1, 1, 1, 1, 1, 998))
        self.assert_exact(pattern_after((far, 3), 1, 1000), (far - 999, 1, 1, 1, 1, 1, 997))
        self.assert_exact(pattern_after((far, 3), 0, far), (0, 1, 1, 1, 1, 1, far - 2))
        self.assert_exact(pattern_after((far, 3), 0, far + 1), (0, 2, 1, 1, far - 1))
        self.assert_exact(pattern_after((far, 3), 0, far + 2), (0, 3, far))

    def test_many_light_keys_before_a_short_pattern(self):
        for pattern in MOVED:
            many = MAX_LENGTH - 2 * sum(pattern)
            for start in (0, 1):
                for rounds, row in enumerate(run_pattern(pattern, start)):
                    runs = runs_of(row)
                    expected = (0, many, *runs) if runs[0] > 0 else (0, many + runs[1], *runs[2:])
                    result = pattern_after((0, many, *pattern), start, rounds)
                    self.assert_exact(result, expected)
                    self.assertIs(is_pattern(result), True)

    def test_long_runs_that_break_up(self):
        half = 5 * 10 ** 11
        for start in (0, 1):
            for rounds in (100, 10 ** 6, half, 10 ** 12 - 100):
                self.assert_error(TooMany, {"limit": 20}, pattern_after, (half, half), start, rounds)
        # Three light keys have left the run, each one two places behind the one before it.
        self.assert_exact(pattern_after((half, half), 1, 3), (half - 3, 1, 1, 1, 1, 1, 1, half - 3))


class WrongValuesTest(ExactCase):
    def test_values_that_are_no_indices(self):
        for pattern in ((1, 2), (0, 2, 1), (7,), (0, 1), HUGE):
            total = light_total(pattern)
            for value in (*OTHER_VALUES, -1, total, total + 1, BIG, -BIG, [0], (0,), "0"):
                for start in (0, 1):
                    self.assert_error(NoIndex, {"index": value}, light_arrival, pattern, start, value)
                    for rounds in (0, 1, MAX_LENGTH):
                        self.assert_error(NoIndex, {"index": value}, light_place, pattern, start, value, rounds)

    def test_values_that_are_no_places(self):
        for pattern in ((1, 2), (0, 2, 1), (7,), (1,), HUGE):
            length = sum(pattern)
            for value in (*OTHER_VALUES, -1, length + 1, length + 2, BIG, -BIG, [0], (0,), "0"):
                for start in (0, 1):
                    for rounds in (0, 1, MAX_LENGTH):
                        self.assert_error(NoPlace, {"value": value}, light_before, pattern, start, value, rounds)

    def test_the_error_has_the_very_value(self):
        for value in ([1], {"a": [1]}, ((1,), [])):
            with self.assertRaises(NoIndex) as caught:
                light_place((1, 2), 0, value, 1)
            self.assertIs(caught.exception.index, value)
            with self.assertRaises(NoIndex) as caught:
                light_arrival((1, 2), 0, value)
            self.assertIs(caught.exception.index, value)
            with self.assertRaises(NoPlace) as caught:
                light_before((1, 2), 0, value, 1)
            self.assertIs(caught.exception.value, value)

    def test_patterns_somewhat_beyond_the_limits_are_no_error(self):
        pattern = (1,) * 21
        self.assert_exact([light_total(pattern), pattern_rounds(pattern, 0)], [10, 10])
        self.assert_exact(light_place(pattern, 0, 9, 1), 18)
        self.assert_exact(light_before(pattern, 0, 21, 0), 10)
        self.assert_error(TooMany, {"limit": 20}, pattern_after, pattern, 0, 0)
        self.assert_exact(pattern_after((1, MAX_LENGTH), 0, MAX_LENGTH + 1), (0, MAX_LENGTH, 1))
