"""Point 118: the limits."""

from oddrounds import bounds
from tests.checks import ExactCase


class LimitsTest(ExactCase):
    def test_each_limit_has_its_value(self):
        self.assert_exact(bounds.MAX_KEY, 1000000000000)
        self.assert_exact(bounds.MAX_PLACES, 24)
        self.assert_exact(bounds.MAX_ROUNDS, 100)
        self.assert_exact(bounds.LISTED, 2000)
        self.assert_exact(bounds.SMALL_PLACES, 7)
        self.assert_exact(bounds.MAX_RUNS, 20)
        self.assert_exact(bounds.MAX_LENGTH, 1000000000000)
        self.assert_exact(bounds.MAX_ACTIONS, 60)
        self.assert_exact(bounds.BATCH, 20)
        self.assert_exact(bounds.HISTORY, 30)
        self.assert_exact(bounds.COUNT_PLACES, 12)
        self.assert_exact(bounds.MAX_LOSSES, 100)

    def test_there_are_twelve_limits(self):
        names = [name for name in vars(bounds) if name.isupper()]
        self.assertEqual(len(names), 12)
