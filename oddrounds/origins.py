"""Origins: the rows that one round, or some rounds, turn into a row."""

from oddrounds.bounds import LISTED, SMALL_PLACES
from oddrounds.errors import NoIndex, TooLong, TooMany
from oddrounds.rounds import after_exchange, after_round, compared_places, exchanged_places
from oddrounds.rows import is_integer_between, is_plain_integer


def first_disorder(row, start, number):
    """Return the smallest place of a compared pair of the round that is descending, or None."""
    descending = exchanged_places(row, start, number)
    return None if len(descending) == 0 else descending[0]


def count_origins(row, start, number):
    """Return the number of rows that the round turns into the row."""
    if first_disorder(row, start, number) is not None:
        return 0
    return 1 << len(compared_places(len(row), start, number))


def numbered_origin(row, start, number, index):
    """Return the origin with this index of a row that has one."""
    result = row
    left = index
    # The exchange of a pair makes a row greater than all exchanges of the
    # pairs behind it, so the last pair stands for the lowest bit.
    for place in reversed(compared_places(len(row), start, number)):
        if left % 2 == 1:
            result = after_exchange(result, place)
        left = left // 2
    return result


def all_origins(row, start, number):
    """Return the ascending list of all origins, however many there are."""
    many = count_origins(row, start, number)
    return [numbered_origin(row, start, number, index) for index in range(many)]


def origins_of(row, start, number):
    """Return the ascending tuple of all origins.

    Raises TooMany(LISTED) if there are more than LISTED.
    """
    if count_origins(row, start, number) > LISTED:
        raise TooMany(LISTED)
    return tuple(all_origins(row, start, number))


def origin_at(row, start, number, index):
    """Return the origin with this index among the origins in ascending order.

    Raises NoIndex(index) if there is none.
    """
    if not is_integer_between(index, 0, count_origins(row, start, number) - 1):
        raise NoIndex(index)
    return numbered_origin(row, start, number, index)


def is_origin(row, start, number, value):
    """Return whether the round turns value into the row."""
    if not isinstance(value, tuple) or len(value) != len(row):
        return False
    # True == 1 and False == 0, so that == alone would accept bools.
    if not all([is_plain_integer(item) for item in value]):
        return False
    return after_round(value, start, number) == row


def origin_index(row, start, number, value):
    """Return the index of value among the origins in ascending order, or None if it is none."""
    if not is_origin(row, start, number, value):
        return None
    index = 0
    for place in compared_places(len(row), start, number):
        index = 2 * index + (1 if value[place] > value[place + 1] else 0)
    return index


def check_small(row):
    """Raise TooLong(SMALL_PLACES) if the row has too many places to go through all its orders."""
    if len(row) > SMALL_PLACES:
        raise TooLong(SMALL_PLACES)


def all_early_rows(row, start, rounds):
    """Return the list of all rows that the rounds turn into the row, in any order."""
    rows = [row]
    # As many rounds as places sort every row, so that further ones change nothing.
    for number in reversed(range(1, min(rounds, len(row)) + 1)):
        rows = [origin for later in rows for origin in all_origins(later, start, number)]
    return rows


def count_early_rows(row, start, rounds):
    """Return the number of rows that the rounds turn into the row.

    Raises TooLong(SMALL_PLACES) if the row has more places.
    """
    check_small(row)
    return len(all_early_rows(row, start, rounds))


def early_rows(row, start, rounds):
    """Return the ascending tuple of all rows that the rounds turn into the row.

    Raises TooLong(SMALL_PLACES) if the row has more places, then TooMany(LISTED)
    if there are more than LISTED.
    """
    check_small(row)
    rows = all_early_rows(row, start, rounds)
    if len(rows) > LISTED:
        raise TooMany(LISTED)
    return tuple(sorted(rows))


def greatest_age(row, start):
    """Return the greatest number of rounds for which the row has an early row.

    Returns None if there is no greatest one. Raises TooLong(SMALL_PLACES) if
    the row has more places.
    """
    check_small(row)
    if list(row) == sorted(row):
        return None
    return max([age for age in range(len(row)) if len(all_early_rows(row, start, age)) > 0])
