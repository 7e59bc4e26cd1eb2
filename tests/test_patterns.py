"""Points 43 to 46: what a pattern is, and the pattern of a row."""

from oddrounds.bounds import MAX_KEY, MAX_LENGTH, MAX_RUNS
from oddrounds.errors import NoThreshold, TooMany
from oddrounds.patterns import is_pattern, light_total, pattern_of
from oddrounds.rows import thresholds
from tests.checks import BIG, OTHER_VALUES, SAMPLE_ROWS, ExactCase, small_rows
from tests.running import expanded, heaviness, runs_of

LONGEST = (0, 5 * 10 ** 11, 5 * 10 ** 11)


def alternating_row(n, alternating, first_is_light):
    """Return a row of the keys 0 to n - 1 and its threshold.

    Its first places alternate between heavy and light, all others are as the
    last one of them.
    """
    lights = []
    for place in range(n):
        at = min(place, alternating - 1)
        lights.append((at % 2 == 0) == first_is_light)
    many = lights.count(True)
    light_keys = list(range(many))
    heavy_keys = list(range(many, n))
    row = [light_keys.pop() if light else heavy_keys.pop() for light in lights]
    return tuple(row), many - 1


class IsPatternTest(ExactCase):
    def assert_pattern(self, value, expected):
        self.assert_exact(is_pattern(value), expected)

    def test_example(self):
        results = [is_pattern((0, 2, 1)), is_pattern((0,)), is_pattern((1, 0, 1))]
        self.assert_exact(results, [True, False, False])

    def test_patterns(self):
        for value in ((1,), (0, 1), (1, 1), (7,), (0, 5, 1), (3, 1, 4, 1, 5), LONGEST):
            self.assert_pattern(value, True)

    def test_only_the_first_length_may_be_0(self):
        self.assert_pattern((0, 1, 1, 1), True)
        for at in range(1, 4):
            value = [2, 1, 1, 1]
            value[at] = 0
            self.assert_pattern(tuple(value), False)
            value[0] = 0
            self.assert_pattern(tuple(value), False)

    def test_negative_lengths(self):
        for value in ((-1,), (-1, 2), (2, -1), (0, -1), (1, 2, -1), (-BIG, BIG + 1), (1, -BIG)):
            self.assert_pattern(value, False)

    def test_sums(self):
        self.assert_pattern((0,), False)
        self.assert_pattern((MAX_LENGTH,), True)
        self.assert_pattern((MAX_LENGTH + 1,), False)
        self.assert_pattern((0, MAX_LENGTH), True)
        self.assert_pattern((0, MAX_LENGTH + 1), False)
        self.assert_pattern((1, MAX_LENGTH - 1), True)
        self.assert_pattern((1, MAX_LENGTH), False)
        self.assert_pattern((MAX_LENGTH - 19, *[1] * 19), True)
        self.assert_pattern((MAX_LENGTH - 18, *[1] * 19), False)
        self.assert_pattern((1, BIG), False)
        self.assert_pattern((BIG,), False)

    def test_numbers_of_runs(self):
        self.assert_pattern((), False)
        for many in range(1, 25):
            self.assert_pattern((1,) * many, many <= 20)
            self.assert_pattern((0, *[1] * many), many + 1 <= 20)
        self.assert_pattern((1,) * 4000, False)

    def test_bools_are_no_integers(self):
        for value in ((True,), (False, 1), (False, 2, 1), (1, True), (0, 2, True), (True, True)):
            self.assert_pattern(value, False)

    def test_parts_of_other_kinds(self):
        for part in OTHER_VALUES:
            self.assert_pattern((part,), False)
            for at in range(3):
                value = [1, 2, 3]
                value[at] = part
                self.assert_pattern(tuple(value), False)

    def test_values_of_other_kinds(self):
        for value in (*OTHER_VALUES, [0, 2, 1], [7], 7, 0, BIG, "(0, 2, 1)", {"0": 2}, ((0, 2, 1),)):
            self.assert_pattern(value, value in ((1,), (10, 30)))

    def test_a_part_changed_removed_or_repeated(self):
        good = (0, 2, 1, 3)
        self.assert_pattern(good[1:], True)
        self.assert_pattern(good[:1] + good, False)
        for at in range(1, 4):
            self.assert_pattern(good[:at] + good[at + 1:], True)
            self.assert_pattern(good[:at] + good[at:at + 1] + good[at:], True)
            self.assert_pattern(good[:at] + (None,) + good[at + 1:], False)
            self.assert_pattern(good[:at] + (0,) + good[at:], False)


class PatternOfTest(ExactCase):
    def test_example(self):
        results = [pattern_of((5, 1, 4, 2), 2), pattern_of((1, 4, 2, 5), 4)]
        self.assert_exact(results, [(1, 1, 1, 1), (0, 3, 1)])
        self.assert_error(NoThreshold, {"value": 5}, pattern_of, (5, 1, 4, 2), 5)

    def test_against_the_heaviness_of_each_place(self):
        for row in (*SAMPLE_ROWS, *small_rows()):
            for threshold in thresholds(row):
                marks = heaviness(row, threshold)
                runs = runs_of(marks)
                if len(runs) <= MAX_RUNS:
                    result = pattern_of(row, threshold)
                    self.assert_exact(result, runs)
                    self.assertEqual(expanded(result), list(marks))
                    self.assertIs(is_pattern(result), True)

    def test_numbers_of_runs(self):
        for many in range(2, 25):
            for first_is_light in (False, True):
                row, threshold = alternating_row(24, many, first_is_light)
                runs = runs_of(heaviness(row, threshold))
                self.assertEqual(len(runs), many + (1 if first_is_light else 0))
                if len(runs) <= 20:
                    self.assert_exact(pattern_of(row, threshold), runs)
                else:
                    self.assert_error(TooMany, {"limit": 20}, pattern_of, row, threshold)

    def test_an_empty_first_run_counts(self):
        row, threshold = alternating_row(20, 20, False)
        self.assert_exact(pattern_of(row, threshold), (1,) * 20)
        row, threshold = alternating_row(20, 20, True)
        self.assert_error(TooMany, {"limit": 20}, pattern_of, row, threshold)
        row, threshold = alternating_row(19, 19, True)
        self.assert_exact(pattern_of(row, threshold), (0, *[1] * 19))

    def test_values_that_are_no_thresholds(self):
        for row in ((5, 1, 4, 2), (1, 0, 2), (0,), (1,)):
            for value in (*OTHER_VALUES, max(row), -1, 3, MAX_KEY + 1, BIG, [2], (2,), "2"):
                self.assert_error(NoThreshold, {"value": value}, pattern_of, row, value)

    def test_the_threshold_is_checked_before_the_runs(self):
        row, threshold = alternating_row(24, 24, True)
        self.assert_error(TooMany, {"limit": 20}, pattern_of, row, threshold)
        for value in (max(row), 24, True, None, [threshold]):
            self.assert_error(NoThreshold, {"value": value}, pattern_of, row, value)


class LightTotalTest(ExactCase):
    def test_example(self):
        self.assert_exact([light_total((1, 2, 3)), light_total((7,))], [2, 0])

    def test_patterns(self):
        for pattern in ((1,), (0, 1), (4, 1, 4, 1, 5), (0, 2, 3, 4), (2,) * 20, (0, *[3] * 19)):
            self.assert_exact(light_total(pattern), expanded(pattern).count(0))

    def test_long_patterns(self):
        self.assert_exact(light_total(LONGEST), 5 * 10 ** 11)
        self.assert_exact(light_total((0, 10 ** 12)), 10 ** 12)
        self.assert_exact(light_total((10 ** 12,)), 0)
        self.assert_exact(light_total((5 * 10 ** 10,) * 20), 5 * 10 ** 11)
