"""Points 107 to 113: texts."""

import itertools
import re

from oddrounds.bounds import MAX_KEY
from oddrounds.errors import BadText
from oddrounds.texts import certificate_text, parse_certificate, parse_row, parse_start, row_text, start_text
from tests.checks import BIG, OTHER_VALUES, SAMPLE_ROWS, SORTED_24, ExactCase, small_rows

NO_STRINGS = tuple(value for value in OTHER_VALUES if not isinstance(value, str)) + (0, 1, BIG, b"1 2")
# Parts that are not the text of a key, wherever they stand.
NO_KEYS = (
    "", "-1", "+1", "-0", "+0", "00", "01", "007", "1.0", "1,", ",", "1_0", "x", "1x", "x1", "0x1", "1e3",
    "\n", "1\n", "\n1", "1\n2", "None", "True", "(1)", "1:", "0:", "'1'", "1000000000001", "9999999999999",
    "10000000000000", "1" * 14, "9" * 40, "1" * 2500, "0" * 2500, "0" * 13 + "1",
)
LONG_TEXT = " ".join(str(key) for key in range(24))



def slow_parse_row(text):
    """Return the row whose text this is, or the index of the first wrong part."""
    parts = text.split(" ")
    for index, part in enumerate(parts):
        number = re.fullmatch("0|[1-9][0-9]{0,12}", part)
        if number is None or int(part) > MAX_KEY or part in parts[:index] or index > 23:
            return index
    return tuple(int(part) for part in parts)


def slow_parse_certificate(text):
    """Return the certificate whose text this is, or the index of the first wrong part."""
    if text == "sorted":
        return ("sorted",)
    word, *parts = text.split(" ")
    if word != "late":
        return 0
    if not parts or isinstance(slow_parse_row(parts[0]), int):
        return 1
    if len(parts) < 2 or parts[1] not in [str(place) for place in range(24)]:
        return 2
    return 3 if len(parts) > 2 else ("late", int(parts[0]), int(parts[1]))


def changed_texts(text):
    """Yield the text with a character or a part changed, added, removed or repeated."""
    for at in range(len(text) + 1):
        yield text[:at] + text[at + 1:]
        yield text[:at] + text[at:at + 1] + text[at:]
        for letter in " 0123456789:-+,.xLls\n":
            yield text[:at] + letter + text[at:]
            yield text[:at] + letter + text[at + 1:]
    parts = text.split(" ")
    for at in range(len(parts)):
        yield " ".join(parts[:at] + parts[at + 1:])
        yield " ".join(parts[:at + 1] + parts[at:])
        yield " ".join([*parts, parts[at]])
        for part in NO_KEYS:
            yield " ".join([*parts[:at], part, *parts[at + 1:]])
            yield " ".join([*parts[:at], part, *parts[at:]])


class ExamplesTest(ExactCase):
    def test_rows(self):
        self.assert_exact(row_text((50, 10, 30)), "50 10 30")
        self.assert_exact(parse_row("50 10 30"), (50, 10, 30))
        self.assert_error(BadText, {"index": 1}, parse_row, "50  10")

    def test_rows_with_a_start(self):
        self.assert_exact(start_text((50, 10, 30), 1), "1: 50 10 30")
        self.assert_exact(parse_start("1: 50 10 30"), ((50, 10, 30), 1))
        self.assert_error(BadText, {"index": 1}, parse_start, "0: 50 50")

    def test_certificates(self):
        results = [certificate_text(("sorted",)), certificate_text(("late", 30, 2))]
        self.assert_exact(results, ["sorted", "late 30 2"])
        results = [parse_certificate("sorted"), parse_certificate("late 30 2")]
        self.assert_exact(results, [("sorted",), ("late", 30, 2)])
        self.assert_error(BadText, {"index": 2}, parse_certificate, "late 30")


class RowTextTest(ExactCase):
    def test_texts(self):
        for row in (*SAMPLE_ROWS, *small_rows()):
            expected = str(row).replace(",", "").strip("()")
            self.assert_exact(row_text(row), expected)
            self.assert_exact(parse_row(expected), row)
            for start in (0, 1):
                self.assert_exact(start_text(row, start), f"{start}: {expected}")
                self.assert_exact(parse_start(f"{start}: {expected}"), (row, start))

    def test_keys_at_the_limit(self):
        self.assert_exact(parse_row("1000000000000 0 999999999999"), (MAX_KEY, 0, MAX_KEY - 1))
        self.assert_exact(row_text((MAX_KEY, 0)), "1000000000000 0")


class ParseRowTest(ExactCase):
    """Also for what follows the start in parse_start."""

    def assert_bad(self, text, index):
        self.assert_error(BadText, {"index": index}, parse_row, text)
        for begin in ("0: ", "1: "):
            self.assert_error(BadText, {"index": index}, parse_start, begin + text)

    def test_the_empty_string(self):
        self.assert_bad("", 0)

    def test_parts_that_are_no_keys(self):
        for part in NO_KEYS:
            self.assert_bad(part, 0)
            self.assert_bad(part + " 5", 0)
            self.assert_bad("5 " + part, 1)
            self.assert_bad("5 " + part + " 6", 1)
            self.assert_bad("5 6 7 8 " + part, 4)
            # The first wrong part counts.
            self.assert_bad("5 6 " + part + " " + part + " 5", 2)

    def test_spaces(self):
        for text, index in ((" ", 0), ("  ", 0), (" 1", 0), ("1 ", 1), ("1 2 ", 2), ("1  2", 1), (" 1 2 ", 0)):
            self.assert_bad(text, index)
        self.assert_bad("1 2   3", 2)

    def test_keys_twice(self):
        for text, index in (("5 5", 1), ("0 0", 1), ("1 2 3 2", 3), ("1 2 1 x", 2), ("1 x 1", 1)):
            self.assert_bad(text, index)
        for at in range(1, 24):
            parts = LONG_TEXT.split(" ")
            parts[at] = parts[at - 1]
            self.assert_bad(" ".join(parts), at)

    def test_24_and_25_keys(self):
        self.assert_exact(parse_row(LONG_TEXT), SORTED_24)
        for more in ("24", "0", "x", "", "24 25", "1" * 2500):
            self.assert_bad(LONG_TEXT + " " + more, 24)
        self.assert_bad(" ".join(str(key) for key in range(500)), 24)
        # A wrong part before the 25th one comes first.
        self.assert_bad(LONG_TEXT.replace("23", "x") + " 24", 23)
        self.assert_bad(LONG_TEXT.replace("23", "22") + " 24", 23)

    def test_every_other_character(self):
        for number in (10, *range(32, 127)):
            letter = chr(number)
            for text, index in ((letter, 0), ("7" + letter, 0), ("1 2 " + letter, 2), ("5 7" + letter, 1)):
                if letter == " ":
                    index += text[-2:-1] == "7"
                elif letter.isdigit() and text not in ("1 2 1", "1 2 2"):
                    self.assert_exact(parse_row(text), tuple(int(part) for part in text.split(" ")))
                    continue
                self.assert_bad(text, index)

    def test_other_digits(self):
        for text in ("\u0661", "1 \u0662", "\u00b2", "\u00bd 1", "1\u00a02"):
            with self.assertRaises(BadText):
                parse_row(text)

    def test_values_that_are_not_strings(self):
        for value in NO_STRINGS:
            self.assert_error(BadText, {"index": None}, parse_row, value)


class ParseStartTest(ExactCase):
    def test_values_that_do_not_begin_with_a_start(self):
        wrong = (
            "", "0", "1", "0:", "1:", "0 ", "0 : 1", "2: 1", "00: 1", "01: 1", "10: 1", "-0: 1", "+1: 1", "0:1",
            "1:50 10", "0:\n1", " 0: 1", "\n0: 1", "0; 1", "0.: 1", ": 1", "x: 1", "50 10 30", "1 2 3",
            "a: 1", "0 1 2", "True: 1", "0\n: 1", "O: 1", "l: 1",
        )
        for value in (*wrong, *NO_STRINGS):
            self.assert_error(BadText, {"index": None}, parse_start, value)

    def test_nothing_or_another_space_follows(self):
        for text in ("0: ", "1: ", "0:  1", "1:  ", "0: \n", "0: 0: 1", "1: x", "0: -1"):
            self.assert_error(BadText, {"index": 0}, parse_start, text)
        self.assert_error(BadText, {"index": 1}, parse_start, "0: 1 0: 1")
        self.assert_error(BadText, {"index": 1}, parse_start, "0: 1 ")


class CertificateTextTest(ExactCase):
    def test_texts(self):
        for threshold, place in itertools.product((0, 1, 30, MAX_KEY - 1, MAX_KEY), range(24)):
            text = f"late {threshold} {place}"
            self.assert_exact(certificate_text(("late", threshold, place)), text)
            self.assert_exact(parse_certificate(text), ("late", threshold, place))
        self.assert_exact(parse_certificate(certificate_text(("sorted",))), ("sorted",))

    def assert_bad(self, value, index):
        self.assert_error(BadText, {"index": index}, parse_certificate, value)

    def test_values_that_are_not_strings(self):
        for value in (*NO_STRINGS, ("sorted",), ("late", 30, 2), ["sorted"]):
            self.assert_bad(value, None)

    def test_the_first_part(self):
        wrong = (
            "", " ", "  ", "sorted ", "sorted  ", "sorted 1", "sorted sorted", "sorted late 1 2", "Sorted",
            "SORTED", "sorte", "sortedd", " sorted", "sorted\n", "\nsorted", "late\n", "Late 1 2", "lat 1 2",
            "latee 1 2", " late 1 2", "\nlate 1 2", "x", "x 1 2", "1 2", "late\n1 2", "late,1 2", "0: 1",
        )
        for value in wrong:
            self.assert_bad(value, 0)

    def test_the_second_part(self):
        self.assert_bad("late", 1)
        self.assert_bad("late ", 1)
        self.assert_bad("late  ", 1)
        self.assert_bad("late  1 2", 1)
        for part in NO_KEYS:
            for rest in ("", " 2", " x", " 2 3", " ", "  "):
                self.assert_bad("late " + part + rest, 1)

    def test_the_third_part(self):
        self.assert_bad("late 5", 2)
        for part in (*NO_KEYS, "24", "25", "100", "30", "1000000000000"):
            for rest in ("", " 3", " ", " x y"):
                self.assert_bad("late 5 " + part + rest, 2)
        self.assert_bad("late 5  2", 2)

    def test_more_parts(self):
        for rest in (" ", " 3", "  ", " x", " 2 2", " late 1 2", " sorted", " \n"):
            self.assert_bad("late 5 2" + rest, 3)


class ChangedTextsTest(ExactCase):
    def assert_parsed(self, call, text, expected):
        """Check a result, or the index of a BadText."""
        if expected is None or isinstance(expected, int):
            self.assert_error(BadText, {"index": expected}, call, text)
        else:
            self.assert_exact(call(text), expected)

    def test_rows(self):
        for text in ("7", "50 10 30", "0 1000000000000 5", LONG_TEXT):
            for changed in changed_texts(text):
                self.assert_parsed(parse_row, changed, slow_parse_row(changed))

    def test_rows_with_a_start(self):
        for text in ("0: 7", "1: 50 10 30", "0: 0 1000000000000 5"):
            for changed in changed_texts(text):
                begin, rest = changed[:3], changed[3:]
                expected = slow_parse_row(rest) if begin in ("0: ", "1: ") else None
                if isinstance(expected, tuple):
                    expected = (expected, int(begin[0]))
                self.assert_parsed(parse_start, changed, expected)

    def test_certificates(self):
        for text in ("sorted", "late 30 2", "late 1000000000000 23", "late 0 0"):
            for changed in changed_texts(text):
                self.assert_parsed(parse_certificate, changed, slow_parse_certificate(changed))
