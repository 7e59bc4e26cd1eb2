"""Rows of different keys, their inversions, thresholds and light keys."""

from oddrounds.bounds import MAX_KEY, MAX_PLACES
from oddrounds.errors import NoThreshold


def is_plain_integer(value):
    """Return whether value is an integer."""
    # A bool is an int for Python, but not an integer for this package.
    return isinstance(value, int) and not isinstance(value, bool)


def is_integer_between(value, low, high):
    """Return whether value is an integer from low to high."""
    return is_plain_integer(value) and low <= value <= high


def is_key(value):
    """Return whether value is a key."""
    return is_integer_between(value, 0, MAX_KEY)


def is_row(value):
    """Return whether value is a row."""
    return row_error(value) is None


def row_error(value):
    """Return None if value is a row, otherwise its first error."""
    if not isinstance(value, tuple):
        return (None, "tuple")
    if not 1 <= len(value) <= MAX_PLACES:
        return (None, "length")
    for index, item in enumerate(value):
        if not is_key(item):
            return (index, "key")
        # All earlier items are keys here, so == cannot take a bool for an integer.
        if item in value[:index]:
            return (index, "duplicate")
    return None


def ranks(row):
    """Return, for each place, the number of smaller keys in the row."""
    ascending = sorted(row)
    return tuple([ascending.index(key) for key in row])


def mirror(row):
    """Return the row with the places and the order of the keys reversed."""
    descending = sorted(row, reverse=True)
    row_ranks = ranks(row)
    return tuple([descending[rank] for rank in reversed(row_ranks)])


def inversions(row):
    """Return the ascending tuple of all inversions (smaller key, greater key)."""
    found = []
    for place, key in enumerate(row):
        for later in row[place + 1:]:
            if later < key:
                found.append((later, key))
    return tuple(sorted(found))


def thresholds(row):
    """Return the ascending tuple of all keys but the greatest one."""
    return tuple(sorted(row)[:-1])


def is_in_row(row, value):
    """Return whether value is a key of the row."""
    # True == 1, so that `in` alone would accept a bool.
    return is_plain_integer(value) and value in row


def is_threshold(row, value):
    """Return whether value is a threshold of the row."""
    return is_in_row(row, value) and value != max(row)


def light_places(row, threshold):
    """Return the ascending tuple of the places of the light keys.

    Raises NoThreshold(threshold) if threshold is not a threshold of the row.
    """
    if not is_threshold(row, threshold):
        raise NoThreshold(threshold)
    return tuple([place for place, key in enumerate(row) if key <= threshold])
