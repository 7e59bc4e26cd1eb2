"""Points 3 to 7: keys and rows."""

from oddrounds.bounds import MAX_KEY
from oddrounds.rows import is_key, is_row, row_error
from tests.checks import BIG, OTHER_VALUES, SAMPLE_ROWS, ExactCase, small_rows

TUPLE = (None, "tuple")
LENGTH = (None, "length")


class IsKeyTest(ExactCase):
    def test_example(self):
        self.assert_exact([is_key(10 ** 12), is_key(-1), is_key(False)], [True, False, False])

    def test_keys(self):
        for value in (0, 1, 2, 23, 24, 25, 999999999999, MAX_KEY - 1, MAX_KEY):
            self.assert_exact(is_key(value), True)

    def test_integers_that_are_no_keys(self):
        for value in (-1, -2, -MAX_KEY, MAX_KEY + 1, BIG, -BIG):
            self.assert_exact(is_key(value), False)

    def test_bools_are_no_keys(self):
        self.assert_exact([is_key(True), is_key(False)], [False, False])

    def test_other_values_are_no_keys(self):
        for value in OTHER_VALUES:
            self.assert_exact(is_key(value), False)


class RowsTest(ExactCase):
    """What is_row and row_error say of the same value."""

    def assert_row(self, value):
        self.assert_exact(row_error(value), None)
        self.assert_exact(is_row(value), True)

    def assert_no_row(self, value, error):
        self.assert_exact(row_error(value), error)
        self.assert_exact(is_row(value), False)

    def test_example_of_is_row(self):
        results = [is_row((3, 1, 2)), is_row(()), is_row((3, 3))]
        self.assert_exact(results, [True, False, False])

    def test_example_of_row_error(self):
        results = [row_error((4, 9, 4)), row_error((4, None)), row_error(())]
        self.assert_exact(results, [(2, "duplicate"), (1, "key"), (None, "length")])

    def test_rows(self):
        for row in (*SAMPLE_ROWS, *small_rows()):
            self.assert_row(row)

    def test_first_and_last_key(self):
        self.assert_row((MAX_KEY, 0))
        self.assert_no_row((-1,), (0, "key"))
        self.assert_no_row((MAX_KEY + 1,), (0, "key"))
        self.assert_no_row((5, -1), (1, "key"))
        self.assert_no_row((5, 6, MAX_KEY + 1), (2, "key"))

    def test_lengths(self):
        self.assert_no_row((), LENGTH)
        self.assert_row((0,))
        self.assert_row(tuple(range(24)))
        self.assert_no_row(tuple(range(25)), LENGTH)
        self.assert_no_row(tuple(range(26)), LENGTH)
        self.assert_no_row(tuple(range(4000)), LENGTH)

    def test_the_length_is_checked_before_the_items(self):
        self.assert_no_row((True,) * 25, LENGTH)
        self.assert_no_row((1,) * 25, LENGTH)
        self.assert_no_row((1,) * 24, (1, "duplicate"))
        self.assert_no_row((None,) * 24, (0, "key"))

    def test_values_that_are_no_tuples(self):
        for value in OTHER_VALUES:
            if not isinstance(value, tuple):
                self.assert_no_row(value, TUPLE)
        for value in ([3, 1, 2], list(range(25)), "312", {"3": 1}, 0, 1, BIG):
            self.assert_no_row(value, TUPLE)

    def test_items_that_are_no_keys(self):
        for value in (*OTHER_VALUES, -1, MAX_KEY + 1, BIG, -BIG):
            self.assert_no_row((value,), (0, "key"))
            self.assert_no_row((8, 9, value), (2, "key"))
            self.assert_no_row((8, value, 9), (1, "key"))
            self.assert_no_row((value, value), (0, "key"))

    def test_bools_are_neither_keys_nor_duplicates(self):
        self.assert_no_row((True, False), (0, "key"))
        self.assert_no_row((1, True), (1, "key"))
        self.assert_no_row((0, 5, False), (2, "key"))
        self.assert_no_row((True, 1), (0, "key"))

    def test_repeated_keys(self):
        self.assert_no_row((0, 0), (1, "duplicate"))
        self.assert_no_row((MAX_KEY, 3, MAX_KEY), (2, "duplicate"))
        self.assert_no_row((1, 2, 2, 1), (2, "duplicate"))
        self.assert_no_row((*range(23), 0), (23, "duplicate"))
        self.assert_no_row((*range(23), 22), (23, "duplicate"))

    def test_the_first_wrong_item_counts(self):
        self.assert_no_row((4, 4, None), (1, "duplicate"))
        self.assert_no_row((4, None, 4), (1, "key"))
        self.assert_no_row((None, 4, 4), (0, "key"))
        self.assert_no_row((*range(22), 3, True), (22, "duplicate"))
        self.assert_no_row((*range(22), True, 3), (22, "key"))
        self.assert_no_row((1, 2, 3, "x", -1, 1), (3, "key"))
