"""What the tests share: comparisons that see kinds, and sample values."""

import itertools
import unittest

from oddrounds.bounds import MAX_KEY

# Values of every kind that a parameter for any value accepts, none of them an integer.
OTHER_VALUES = (
    None, True, False, "", "1", "10 30", "a\nb", "x" * 3000,
    (), (1,), (10, 30), (True, False), ((1, 2), (3, (4,))),
    [], [1], [10, 30], [[1], {"a": (2,)}], {}, {"a": 1}, {"a": {"b": [None]}},
)

BIG = 10 ** 39 + 7

SORTED_24 = tuple(range(24))
REVERSED_24 = tuple(range(23, -1, -1))
MIXED_24 = tuple((5 * place + 3) % 24 * 10 ** 10 for place in range(24))
SHUFFLED_23 = (19, 2, 11, 21, 6, 0, 15, 22, 9, 3, 17, 12, 5, 20, 1, 14, 8, 18, 4, 10, 16, 7, 13)
SHUFFLED_24 = (*[3 * key for key in SHUFFLED_23], 31)
SAMPLE_ROWS = (
    (0,), (7,), (MAX_KEY,), (1, 2), (2, 1), (0, MAX_KEY), (MAX_KEY, 0),
    (50, 10, 30), (3, 1, 2), (5, 1, 4, 2, 3), (4, 3, 2, 1), (1, 0, 3, 2),
    SORTED_24, REVERSED_24, MIXED_24, SHUFFLED_23, SHUFFLED_24,
)


def small_rows():
    """Return all orders of up to five different keys."""
    keys = (0, 1, 7, 40, MAX_KEY)
    return [row for size in range(1, 6) for row in itertools.permutations(keys[:size])]


def exact(value):
    """Return a form of value in which True and 1, or (1,) and [1], differ."""
    kind = type(value).__name__
    if isinstance(value, (tuple, list)):
        return (kind, [exact(item) for item in value])
    if isinstance(value, dict):
        return (kind, [(exact(name), exact(value[name])) for name in value])
    return (kind, value)


class ExactCase(unittest.TestCase):
    """A test case whose comparisons also compare the kinds of the values."""

    def assert_exact(self, result, expected):
        self.assertEqual(exact(result), exact(expected))

    def assert_error(self, error_class, attributes, call, *arguments):
        """Check the class of the error that a call raises and its attributes."""
        with self.assertRaises(error_class) as caught:
            call(*arguments)
        self.assertIs(type(caught.exception), error_class)
        self.assert_exact(vars(caught.exception), attributes)
