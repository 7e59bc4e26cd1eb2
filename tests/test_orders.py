"""Points 8 to 11: ranks, mirrored rows, inversions and thresholds."""

from oddrounds.bounds import MAX_KEY
from oddrounds.rows import inversions, is_row, mirror, ranks, thresholds
from tests.checks import MIXED_24, REVERSED_24, SAMPLE_ROWS, SORTED_24, ExactCase, small_rows

ALL_ROWS = (*SAMPLE_ROWS, *small_rows())


def is_ascending(items):
    return all(items[at] < items[at + 1] for at in range(len(items) - 1))


class RanksTest(ExactCase):
    def test_example(self):
        self.assert_exact(ranks((50, 10, 30)), (2, 0, 1))

    def test_short_rows(self):
        self.assert_exact(ranks((7,)), (0,))
        self.assert_exact(ranks((MAX_KEY,)), (0,))
        self.assert_exact(ranks((4, 9)), (0, 1))
        self.assert_exact(ranks((9, 4)), (1, 0))

    def test_long_rows(self):
        self.assert_exact(ranks(SORTED_24), SORTED_24)
        self.assert_exact(ranks(REVERSED_24), REVERSED_24)
        self.assert_exact(ranks(MIXED_24), tuple(key // 10 ** 10 for key in MIXED_24))

    def test_counts_smaller_keys(self):
        for row in ALL_ROWS:
            counts = tuple(len([other for other in row if other < key]) for key in row)
            self.assert_exact(ranks(row), counts)


class MirrorTest(ExactCase):
    def test_example(self):
        self.assert_exact([mirror((50, 10, 30)), mirror((1, 2, 3))], [(30, 50, 10), (1, 2, 3)])

    def test_short_rows(self):
        self.assert_exact(mirror((7,)), (7,))
        self.assert_exact(mirror((4, 9)), (4, 9))
        self.assert_exact(mirror((9, 4)), (9, 4))

    def test_long_rows(self):
        self.assert_exact(mirror(SORTED_24), SORTED_24)
        self.assert_exact(mirror(REVERSED_24), REVERSED_24)
        mixed = tuple(23 * 10 ** 10 - key for key in reversed(MIXED_24))
        self.assert_exact(mirror(MIXED_24), mixed)

    def test_places_and_ranks_are_reversed(self):
        for row in ALL_ROWS:
            last = len(row) - 1
            mirrored = mirror(row)
            self.assertTrue(is_row(mirrored))
            self.assertEqual(sorted(mirrored), sorted(row))
            reverse_ranks = tuple(last - rank for rank in reversed(ranks(row)))
            self.assert_exact(ranks(mirrored), reverse_ranks)

    def test_twice_gives_the_row_back(self):
        for row in ALL_ROWS:
            self.assert_exact(mirror(mirror(row)), row)


class InversionsTest(ExactCase):
    def test_example(self):
        self.assert_exact(inversions((50, 10, 30)), ((10, 50), (30, 50)))

    def test_short_rows(self):
        self.assert_exact(inversions((7,)), ())
        self.assert_exact(inversions((4, 9)), ())
        self.assert_exact(inversions((9, 4)), ((4, 9),))

    def test_keys_and_not_places_give_the_order(self):
        self.assert_exact(inversions((2, 4, 1, 3)), ((1, 2), (1, 4), (3, 4)))
        self.assert_exact(inversions((3, 2, 1)), ((1, 2), (1, 3), (2, 3)))

    def test_long_rows(self):
        self.assert_exact(inversions(SORTED_24), ())
        pairs = tuple((a, b) for a in range(24) for b in range(a + 1, 24))
        self.assert_exact(inversions(REVERSED_24), pairs)

    def test_all_pairs_in_the_wrong_order_and_no_others(self):
        for row in ALL_ROWS:
            found = inversions(row)
            self.assertTrue(is_ascending(found))
            pairs = tuple(
                (a, b) for a in sorted(row) for b in sorted(row)
                if a < b and row.index(b) < row.index(a)
            )
            self.assert_exact(found, pairs)


class ThresholdsTest(ExactCase):
    def test_example(self):
        self.assert_exact([thresholds((50, 10, 30)), thresholds((7,))], [(10, 30), ()])

    def test_short_rows(self):
        self.assert_exact(thresholds((0,)), ())
        self.assert_exact(thresholds((4, 9)), (4,))
        self.assert_exact(thresholds((9, 4)), (4,))
        self.assert_exact(thresholds((MAX_KEY, 0)), (0,))

    def test_long_rows(self):
        self.assert_exact(thresholds(SORTED_24), tuple(range(23)))
        self.assert_exact(thresholds(REVERSED_24), tuple(range(23)))
        mixed = tuple(rank * 10 ** 10 for rank in range(23))
        self.assert_exact(thresholds(MIXED_24), mixed)

    def test_all_keys_but_the_greatest_one(self):
        for row in ALL_ROWS:
            found = thresholds(row)
            self.assertTrue(is_ascending(found))
            self.assert_exact((*found, max(row)), tuple(sorted(row)))
