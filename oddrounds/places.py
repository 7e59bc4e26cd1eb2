"""Places of keys after any number of rounds, without running them."""

from oddrounds.delays import wait_of
from oddrounds.errors import NoKey
from oddrounds.rows import is_in_row, ranks


def light_place_after(lights, index, rounds):
    """Return the place of the light key with this index after so many rounds.

    lights are tuples (index, place, wait) of light keys before the first round.
    A light key directly behind another one may be left out: it never holds a
    later light key back for longer than that one does.
    """
    found = index
    for ahead, place, wait in lights:
        behind = index - ahead
        if behind >= 0:
            found = max(found, place + behind - max(0, rounds - behind - wait))
    return found


def smallest_places(row, start, many, rounds):
    """Return the ascending list of the places of so many smallest keys after the rounds."""
    places = [place for place, rank in enumerate(ranks(row)) if rank < many]
    lights = [(index, place, wait_of(place, start)) for index, place in enumerate(places)]
    return [light_place_after(lights, index, rounds) for index in range(many)]


def ranked_place(row, start, rank, rounds):
    """Return the place of the key with this rank after so many rounds."""
    fewer = smallest_places(row, start, rank, rounds)
    more = smallest_places(row, start, rank + 1, rounds)
    return [place for place in more if place not in fewer][0]


def check_key(row, key):
    """Raise NoKey(key) if key is not a key of the row."""
    if not is_in_row(row, key):
        raise NoKey(key)


def place_after(row, start, key, rounds):
    """Return the place of the key after so many rounds.

    Raises NoKey(key) if key is not a key of the row.
    """
    check_key(row, key)
    return ranked_place(row, start, sorted(row).index(key), rounds)


def row_after(row, start, rounds):
    """Return the row after so many rounds."""
    keys = list(row)
    for rank, key in enumerate(sorted(row)):
        keys[ranked_place(row, start, rank, rounds)] = key
    return tuple(keys)


def path_of(row, start, key):
    """Return the tuple of the places of the key up to the last round in which it moves.

    Raises NoKey(key) if key is not a key of the row.
    """
    # As many rounds as there are places sort every row.
    path = [place_after(row, start, key, rounds) for rounds in range(len(row) + 1)]
    while len(path) > 1 and path[-1] == path[-2]:
        path.pop()
    return tuple(path)


def last_move(row, start, key):
    """Return the number of the last round in which the key moves, 0 if it never does.

    Raises NoKey(key) if key is not a key of the row.
    """
    return len(path_of(row, start, key)) - 1


def moves_of(row, start, key):
    """Return in how many rounds the key moves to the left, and to the right.

    Raises NoKey(key) if key is not a key of the row.
    """
    check_key(row, key)
    place = row.index(key)
    left = len([before for before in row[:place] if before > key])
    right = len([after for after in row[place + 1:] if after < key])
    return (left, right)


def exchange_round(row, start, one, other):
    """Return the number of the round that exchanges the two keys, None if none does.

    Raises NoKey(one) if one is not a key of the row, then NoKey(other) if
    other is not.
    """
    check_key(row, one)
    check_key(row, other)
    smaller = min(one, other)
    greater = max(one, other)
    if row.index(smaller) <= row.index(greater):
        return None
    # They are exchanged once, and keep the new order from then on.
    number = 1
    while place_after(row, start, smaller, number) > place_after(row, start, greater, number):
        number += 1
    return number
