"""Points 31 and 32: certificates."""

from oddrounds.bounds import MAX_KEY
from oddrounds.delays import certificate, certificate_holds, needed_rounds
from tests.checks import BIG, OTHER_VALUES, SAMPLE_ROWS, SHUFFLED_24, ExactCase, exact, small_rows
from tests.running import defined_late, run_needed

ALL_STARTS = tuple((row, start) for row in (*SAMPLE_ROWS, *small_rows()) for start in (0, 1))
SORTED = ("sorted",)


class CertificateTest(ExactCase):
    def test_example(self):
        self.assert_exact(certificate((3, 1, 2), 0, 2), SORTED)

    def test_the_certificate_of_each_number_of_rounds_holds(self):
        for row, start in ALL_STARTS:
            needed = run_needed(row, start)
            for rounds in (*range(needed + 2), 100):
                found = certificate(row, start, rounds)
                self.assert_exact(certificate_holds(row, start, rounds, found), True)
                if rounds >= needed:
                    self.assert_exact(found, SORTED)
                else:
                    self.assertEqual(len(found), 3)
                    self.assert_exact(found[0], "late")
                    late = [exact(pair) for pair in defined_late(row, start, rounds)]
                    self.assertIn(exact(found[1:]), late)

    def test_it_depends_on_the_start(self):
        self.assert_exact([certificate((2, 1), 0, 1), certificate((2, 1), 1, 1)], [SORTED, ("late", 1, 1)])

    def test_sorted_rows(self):
        for row in ((7,), (0, MAX_KEY)):
            for start in (0, 1):
                self.assert_exact(certificate(row, start, 0), SORTED)


class CertificateHoldsTest(ExactCase):
    def assert_holds(self, row, start, rounds, value, expected):
        self.assert_exact(certificate_holds(row, start, rounds, value), expected)

    def test_example(self):
        results = [
            certificate_holds((3, 1, 2), 0, 1, ("late", 2, 1)),
            certificate_holds((3, 1, 2), 0, 1, ("late", 1, 1)),
        ]
        self.assert_exact(results, [True, False])

    def test_sorted(self):
        for row, start in ALL_STARTS:
            needed = run_needed(row, start)
            for rounds in (*range(needed + 2), 100):
                self.assert_holds(row, start, rounds, SORTED, rounds >= needed)

    def test_every_threshold_and_place(self):
        for row, start in ALL_STARTS:
            if len(row) > 5:
                continue
            for rounds in range(needed_rounds(row, start) + 2):
                late = defined_late(row, start, rounds)
                for threshold in (*row, -1, 2, MAX_KEY + 1):
                    for place in range(-1, len(row) + 1):
                        expected = (threshold, place) in late
                        self.assert_holds(row, start, rounds, ("late", threshold, place), expected)

    def test_every_threshold_and_place_of_a_long_row(self):
        for rounds in (0, 10, 20):
            late = defined_late(SHUFFLED_24, 1, rounds)
            self.assertTrue(late)
            for threshold in range(max(SHUFFLED_24) + 2):
                for place in range(25):
                    value = ("late", threshold, place)
                    self.assert_holds(SHUFFLED_24, 1, rounds, value, (threshold, place) in late)

    def test_one_part_changed_added_or_removed(self):
        row = (3, 1, 2)
        late = [exact(("late", *pair)) for pair in defined_late(row, 0, 1)]
        self.assertEqual(late, [exact(("late", 2, 1)), exact(("late", 2, 2))])
        for good in (("late", 2, 1), ("late", 2, 2)):
            for at in range(3):
                self.assert_holds(row, 0, 1, good[:at] + good[at + 1:], False)
                for other in (*OTHER_VALUES, -1, 0, 1, 2, 3, 4, BIG, "late ", "Late", "sorted"):
                    changed = good[:at] + (other,) + good[at + 1:]
                    self.assert_holds(row, 0, 1, changed, exact(changed) in late)
            for at in range(4):
                for other in (*OTHER_VALUES, "late", "sorted", 1, 2):
                    self.assert_holds(row, 0, 1, good[:at] + (other,) + good[at:], False)

    def test_parts_of_sorted_changed_added_or_removed(self):
        for value in ((), ("Sorted",), ("sorted ",), ("",), ("late",), (None,), (True,), (SORTED,)):
            self.assert_holds((1, 2), 0, 0, value, False)
        for other in (*OTHER_VALUES, "sorted", 0, 1):
            self.assert_holds((1, 2), 0, 0, ("sorted", other), False)
            self.assert_holds((1, 2), 0, 0, (other, "sorted"), False)
            self.assert_holds((1, 2), 0, 0, ("sorted", 1, other), False)

    def test_bools_are_no_integers(self):
        self.assert_holds((1, 0, 2), 0, 0, ("late", 0, 1), True)
        self.assert_holds((1, 0, 2), 0, 0, ("late", False, 1), False)
        self.assert_holds((1, 0, 2), 0, 0, ("late", 0, True), False)
        self.assert_holds((1, 0, 2), 0, 0, ("late", False, True), False)
        self.assert_holds((2, 1), 0, 0, ("late", 1, 1), True)
        self.assert_holds((2, 1), 0, 0, ("late", True, 1), False)
        self.assert_holds((2, 1), 0, 0, ("late", 1, True), False)

    def test_values_of_other_kinds(self):
        others = (
            *OTHER_VALUES, "sorted", "late", "late 2 1", 0, 1, BIG, ["sorted"], ["late", 2, 1],
            {"sorted": True}, {"late": (2, 1)}, ("late", (2, 1)), (("late", 2, 1),), (SORTED, SORTED),
            ("late", (2,), (1,)), ("late", [2], [1]), (["late"], 2, 1), ("late", "2", "1"),
            [SORTED], {"a": SORTED}, ("late", {"a": 2}, 1),
        )
        for value in others:
            for rounds in (0, 1, 2, 3, 100):
                self.assert_holds((3, 1, 2), 0, rounds, value, False)
                self.assert_holds((7,), 1, rounds, value, False)

    def test_deeply_nested_values(self):
        value = SORTED
        for level in range(19):
            value = (value,) if level % 2 == 0 else [value]
            self.assert_holds((1, 2), 0, 0, value, False)
            self.assert_holds((2, 1), 0, 0, ("late", value, 1), False)
