"""Rounds: the pairs that are compared and exchanged, and the rows after them."""


def compared_places(n, start, number):
    """Return the ascending tuple of the places p whose pair (p, p + 1) is compared."""
    return tuple([place for place in range(n - 1) if (place + start + number) % 2 == 1])


def exchanged_places(row, start, number):
    """Return the ascending tuple of the places p whose pair (p, p + 1) is exchanged."""
    compared = compared_places(len(row), start, number)
    return tuple([place for place in compared if row[place] > row[place + 1]])


def after_exchange(row, place):
    """Return the row after the keys at place and place + 1 were exchanged."""
    return row[:place] + (row[place + 1], row[place]) + row[place + 2:]


def after_round(row, start, number):
    """Return the row after the round with this number alone."""
    result = row
    # The pairs of a round have no place in common, so one exchange after
    # another gives the same as all at once.
    for place in exchanged_places(row, start, number):
        result = after_exchange(result, place)
    return result


def after_rounds(row, start, rounds):
    """Return the row after the rounds from 1 to rounds."""
    return history(row, start, rounds)[-1]


def history(row, start, rounds):
    """Return the tuple of the row and of the rows after each of the rounds."""
    rows = [row]
    for number in range(1, rounds + 1):
        rows.append(after_round(rows[-1], start, number))
    return tuple(rows)


def count_exchanges(row, start, rounds):
    """Return how many pairs are exchanged in all these rounds together."""
    total = 0
    rows = history(row, start, rounds)
    for number in range(1, rounds + 1):
        total += len(exchanged_places(rows[number - 1], start, number))
    return total
