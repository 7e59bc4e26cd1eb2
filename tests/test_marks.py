"""Points 52 to 62: marks, their rounds and their numbers."""

import itertools
import math

from oddrounds.bounds import MAX_KEY
from oddrounds.counting import count_marks, is_marks, light_limits, marks_after, marks_at, marks_index
from oddrounds.counting import marks_of, marks_rounds, most_marks_rounds, next_marks
from oddrounds.errors import BadMarks, NoIndex, NoThreshold
from tests.checks import BIG, OTHER_VALUES, SAMPLE_ROWS, SHUFFLED_23, SHUFFLED_24, ExactCase, small_rows
from tests.running import defined_wait, run_marks, run_needed, weights_of


def marks_of_length(n):
    """Return the ascending list of all marks of n places."""
    return ["".join(letters) for letters in itertools.product("HL", repeat=n)]


SMALL_MARKS = tuple(marks for n in range(1, 8) for marks in marks_of_length(n))
LONG_MARKS = (
    "H" * 23, "L" * 24, "H" * 12 + "L" * 12, "L" * 12 + "H" * 12, "HL" * 12, "LH" * 12,
    "H" * 23 + "L", "H" + "L" * 23, "H" + "LH" * 11, "HHL" * 8, "L" * 11 + "H" + "L" * 11,
    *["".join("L" if key <= 3 * limit else "H" for key in SHUFFLED_24) for limit in (3, 9, 16)],
    *["".join("L" if key <= limit else "H" for key in SHUFFLED_23) for limit in (0, 10, 21)],
)
STARTS = (0, 1)


def long_indexes(total):
    """Return some numbers from 0 to total - 1, the ends among them."""
    return sorted({0, 1, 2, total // 3, total // 2, total - 2, total - 1} & set(range(total)))


class IsMarksTest(ExactCase):
    def test_example(self):
        self.assert_exact([is_marks("HLH"), is_marks("HX"), is_marks("")], [True, False, False])

    def test_marks(self):
        for value in (*SMALL_MARKS, *LONG_MARKS):
            self.assert_exact(is_marks(value), True)

    def test_other_values(self):
        wrong = (
            "", "H" * 25, "L" * 25, "HL" * 13, "h", "l", "hl", "HLh", "lHL", "X", "HLX", " HL", "HL ",
            "H L", "HL\n", "\nHL", "0", "1", ["H", "L"], ["HL"], ("H", "L"), ("HL",), {"H": "L"}, 0, 1, BIG,
        )
        for value in (*wrong, *OTHER_VALUES):
            self.assert_exact(is_marks(value), False)

    def test_every_other_character(self):
        for number in (10, *range(32, 127)):
            letter = chr(number)
            self.assert_exact(is_marks(letter), letter in ("H", "L"))
            self.assert_exact(is_marks("LH" + letter + "L"), letter in ("H", "L"))


class MarksOfTest(ExactCase):
    def test_example(self):
        self.assert_exact(marks_of((30, 10, 20), 10), "HLH")
        self.assert_error(NoThreshold, {"value": 30}, marks_of, (30, 10, 20), 30)

    def test_rows(self):
        for row in (*SAMPLE_ROWS, *small_rows()):
            for threshold in sorted(row)[:-1]:
                expected = ["L" if key <= threshold else "H" for key in row]
                self.assert_exact(marks_of(row, threshold), "".join(expected))

    def test_values_that_are_no_thresholds(self):
        for value in (*OTHER_VALUES, -1, 0, 1, 15, 30, 31, MAX_KEY + 1, BIG, -BIG, "10", (10,), [20]):
            self.assert_error(NoThreshold, {"value": value}, marks_of, (30, 10, 20), value)
        for value in OTHER_VALUES:
            self.assert_error(NoThreshold, {"value": value}, marks_of, (1, 0, 2), value)
        self.assert_error(NoThreshold, {"value": 7}, marks_of, (7,), 7)

    def test_the_error_has_the_very_value(self):
        for value in ([10], {"a": [10]}):
            with self.assertRaises(NoThreshold) as caught:
                marks_of((30, 10, 20), value)
            self.assertIs(caught.exception.value, value)


class MarksRoundsTest(ExactCase):
    def test_example_of_marks_after(self):
        self.assert_exact([marks_after("HHLL", 0, 2), marks_after("HHLL", 0, 4)], ["HLHL", "LLHH"])

    def test_example_of_marks_rounds(self):
        results = [marks_rounds("HHLL", 0), marks_rounds("HLHL", 0), marks_rounds("LLH", 1)]
        self.assert_exact(results, [4, 2, 0])

    def test_example_of_most_marks_rounds(self):
        results = [most_marks_rounds(4, 2, 0), most_marks_rounds(4, 1, 0), most_marks_rounds(4, 4, 0)]
        self.assert_exact(results, [4, 3, 0])

    def test_against_running(self):
        for marks in (*SMALL_MARKS, *LONG_MARKS):
            for start in STARTS:
                for rounds, expected in enumerate(run_marks(marks, start, len(marks) + 2)):
                    self.assert_exact(marks_after(marks, start, rounds), expected)
                ordered = "L" * marks.count("L") + "H" * marks.count("H")
                self.assert_exact(marks_after(marks, start, 100), ordered)
                self.assert_exact(marks_rounds(marks, start), run_needed(weights_of(marks), start))

    def test_marks_and_their_row(self):
        for row in SAMPLE_ROWS:
            for threshold in sorted(row)[:-1]:
                marks = marks_of(row, threshold)
                for start in STARTS:
                    for rounds in (0, 1, 5, 100):
                        expected = run_marks(marks, start, rounds)[-1]
                        self.assert_exact(marks_after(marks, start, rounds), expected)

    def test_most_marks_rounds_of_all_marks(self):
        for n in range(1, 8):
            for lights in range(n + 1):
                for start in STARTS:
                    marks = [item for item in marks_of_length(n) if item.count("L") == lights]
                    needed = [run_needed(weights_of(item), start) for item in marks]
                    self.assert_exact(most_marks_rounds(n, lights, start), max(needed))

    def test_most_marks_rounds_of_long_marks(self):
        for n in (22, 23, 24):
            for lights in range(n + 1):
                for start in STARTS:
                    # No marks are slower than those with all H before all L.
                    slowest = run_needed((1,) * (n - lights) + (0,) * lights, start)
                    self.assert_exact(most_marks_rounds(n, lights, start), slowest)
        for marks in LONG_MARKS:
            for start in STARTS:
                most = most_marks_rounds(len(marks), marks.count("L"), start)
                self.assertLessEqual(run_needed(weights_of(marks), start), most)


class LightLimitsTest(ExactCase):
    def test_example(self):
        self.assert_exact([light_limits(4, 2, 0, 2), light_limits(4, 2, 0, 0)], [(1, 3), (0, 1)])

    def test_the_definition(self):
        for n in (1, 2, 3, 4, 5, 6, 7, 23, 24):
            for lights in range(n + 1):
                for start, rounds in itertools.product(STARTS, (*range(n + 3), 100)):
                    expected = []
                    for j in range(lights):
                        places = [
                            p for p in range(j, n - lights + j + 1)
                            if p == j or p - j + defined_wait(n, start, p) + lights - 1 - j <= rounds
                        ]
                        expected.append(max(places))
                    self.assert_exact(light_limits(n, lights, start, rounds), tuple(expected))

    def test_the_limits_tell_which_marks_are_sorted(self):
        for marks in (*SMALL_MARKS, *LONG_MARKS):
            lights = [place for place, letter in enumerate(marks) if letter == "L"]
            for start in STARTS:
                needed = run_needed(weights_of(marks), start)
                for rounds in (*range(len(marks) + 2), 100):
                    limits = light_limits(len(marks), len(lights), start, rounds)
                    kept = all(place <= limit for place, limit in zip(lights, limits, strict=True))
                    self.assertEqual(kept, needed <= rounds)

    def test_no_light_and_only_light_places(self):
        for n in (1, 2, 24):
            for rounds in (0, 1, 100):
                self.assert_exact(light_limits(n, 0, 0, rounds), ())
                self.assert_exact(light_limits(n, n, 1, rounds), tuple(range(n)))


class SmallNumbersTest(ExactCase):
    """The numbers of marks of up to seven places, against a list of all marks."""

    def lists(self):
        for n in range(1, 8):
            for start in STARTS:
                needed = {item: run_needed(weights_of(item), start) for item in marks_of_length(n)}
                for lights in range(n + 1):
                    for rounds in (*range(n + 2), 100):
                        listed = [m for m in needed if m.count("L") == lights and needed[m] <= rounds]
                        yield n, lights, start, rounds, listed

    def test_count_marks(self):
        for n, lights, start, rounds, listed in self.lists():
            self.assert_exact(count_marks(n, lights, start, rounds), len(listed))

    def test_marks_at(self):
        for n, lights, start, rounds, listed in self.lists():
            for index, marks in enumerate(listed):
                self.assert_exact(marks_at(n, lights, start, rounds, index), marks)
            for index in (-1, len(listed), len(listed) + 1, True, False, None):
                expected = {"index": index}
                self.assert_error(NoIndex, expected, marks_at, n, lights, start, rounds, index)

    def test_marks_index_and_next_marks(self):
        for n, lights, start, rounds, listed in self.lists():
            for index, marks in enumerate(listed):
                self.assert_exact(marks_index(marks, start, rounds), index)
                following = listed[index + 1] if index + 1 < len(listed) else None
                self.assert_exact(next_marks(marks, start, rounds), following)

    def test_marks_that_are_not_sorted_after_the_rounds(self):
        for marks in SMALL_MARKS:
            for start in STARTS:
                for rounds in range(run_needed(weights_of(marks), start)):
                    self.assert_error(BadMarks, {}, marks_index, marks, start, rounds)
                    self.assert_error(BadMarks, {}, next_marks, marks, start, rounds)


class LongNumbersTest(ExactCase):
    """The numbers of marks of 23 and 24 places, of which there are too many to list."""

    def count(self, n, lights, start, rounds):
        """Count the ascending lists of light places up to the limits, light place by light place."""
        limits = light_limits(n, lights, start, rounds)
        # How many lists end at each place.
        ways = [1 if place == -1 else 0 for place in range(-1, n)]
        for limit in limits:
            ways = [sum(ways[:at]) if at - 1 <= limit else 0 for at in range(n + 1)]
        return sum(ways)

    def test_examples(self):
        results = [count_marks(4, 2, 0, 2), count_marks(4, 2, 0, 4), count_marks(24, 12, 1, 24)]
        self.assert_exact(results, [5, 6, 2704156])
        self.assert_exact([marks_at(4, 2, 0, 2, 0), marks_at(4, 2, 0, 2, 4)], ["HLHL", "LLHH"])
        self.assert_error(NoIndex, {"index": 5}, marks_at, 4, 2, 0, 2, 5)
        self.assert_exact(marks_index("LHHL", 0, 2), 2)
        self.assert_error(BadMarks, {}, marks_index, "HHLL", 0, 2)
        self.assert_exact([next_marks("HLLH", 0, 2), next_marks("LLHH", 0, 2)], ["LHHL", None])

    def test_count_marks(self):
        for n in (23, 24):
            for lights in range(n + 1):
                for start in STARTS:
                    self.assert_exact(count_marks(n, lights, start, 0), 1)
                    self.assert_exact(count_marks(n, lights, start, 100), math.comb(n, lights))
                    for rounds in (1, 2, 7, 20, n - 1, n):
                        expected = self.count(n, lights, start, rounds)
                        self.assert_exact(count_marks(n, lights, start, rounds), expected)

    def test_numbers_there_and_back(self):
        for n, lights in ((24, 12), (24, 1), (24, 23), (23, 11), (23, 4), (24, 0), (24, 24)):
            for start, rounds in itertools.product(STARTS, (0, 1, 5, 12, 23, 24, 100)):
                total = count_marks(n, lights, start, rounds)
                before = ""
                for index in long_indexes(total):
                    marks = marks_at(n, lights, start, rounds, index)
                    self.assertEqual((len(marks), marks.count("L")), (n, lights))
                    self.assertLessEqual(run_needed(weights_of(marks), start), rounds)
                    self.assertLess(before, marks)
                    before = marks
                    self.assert_exact(marks_index(marks, start, rounds), index)
                    following = None
                    if index + 1 < total:
                        following = marks_at(n, lights, start, rounds, index + 1)
                        self.assertLess(marks, following)
                    self.assert_exact(next_marks(marks, start, rounds), following)

    def test_one_after_another(self):
        for start in STARTS:
            total = count_marks(24, 12, start, 4)
            marks = marks_at(24, 12, start, 4, 0)
            walked = 0
            while marks is not None and walked < 500:
                walked += 1
                before = marks
                marks = next_marks(marks, start, 4)
                if marks is not None:
                    self.assertLess(before, marks)
            self.assertEqual(walked, min(total, 500))

    def test_indexes_beyond_the_ends(self):
        total = count_marks(24, 12, 0, 20)
        for index in (-BIG, -total, -1, total, total + 1, BIG, str(total - 1), *OTHER_VALUES):
            self.assert_error(NoIndex, {"index": index}, marks_at, 24, 12, 0, 20, index)

    def test_marks_that_are_not_sorted_after_the_rounds(self):
        for marks in LONG_MARKS:
            for start in STARTS:
                needed = run_needed(weights_of(marks), start)
                marks_index(marks, start, needed)
                if needed > 0:
                    for call in (marks_index, next_marks):
                        self.assert_error(BadMarks, {}, call, marks, start, needed - 1)
                        self.assert_error(BadMarks, {}, call, marks, start, 0)


class BadMarksTest(ExactCase):
    def test_values_that_are_not_marks(self):
        wrong = (
            "L" * 25, "L" * 12 + "H" * 13, "l", "lh", "LLh", "LX", "L H", "LH\n", ["L", "H"], ("L", "H"),
            {"L": "H"}, 0, 1, BIG, -1,
        )
        for value in (*wrong, *OTHER_VALUES):
            for start, rounds in itertools.product(STARTS, (0, 1, 100)):
                self.assert_error(BadMarks, {}, marks_index, value, start, rounds)
                self.assert_error(BadMarks, {}, next_marks, value, start, rounds)
