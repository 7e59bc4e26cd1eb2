"""Delays of light keys: how many rounds a row needs, and certificates for it."""

from oddrounds.rounds import after_exchange
from oddrounds.rows import inversions, is_plain_integer, is_row, light_places, ranks, thresholds


def wait_of(place, start):
    """Return the wait of a light key at this place."""
    # Round 1 compares the pair (place - 1, place) if place + start is odd.
    return 0 if place == 0 or (place + start) % 2 == 1 else 1


def waits(row, start, threshold):
    """Return the tuple of the waits of the light keys.

    Raises NoThreshold(threshold) if threshold is not a threshold of the row.
    """
    return tuple([wait_of(place, start) for place in light_places(row, threshold)])


def light_delays(places, start):
    """Return the delay of the light key at each of these places, None if it is home."""
    last = len(places) - 1
    found = []
    for index, place in enumerate(places):
        if place == index:
            found.append(None)
        else:
            found.append(place - index + wait_of(place, start) + last - index)
    return tuple(found)


def greatest_delay(places, start):
    """Return the greatest delay of light keys at these places, 0 if all of them are home."""
    return max([delay for delay in light_delays(places, start) if delay is not None], default=0)


def delays(row, start, threshold):
    """Return the tuple of the delays of the light keys, None for each one that is home.

    Raises NoThreshold(threshold) if threshold is not a threshold of the row.
    """
    return light_delays(light_places(row, threshold), start)


def arrivals(row, start, threshold):
    """Return the last round in which each light key passes a heavy key, 0 if it is home.

    Raises NoThreshold(threshold) if threshold is not a threshold of the row.
    """
    found = []
    before = 0
    for index, place in enumerate(light_places(row, threshold)):
        if place == index:
            arrival = 0
        else:
            # Without a light key before it, or behind one that is home, the
            # second number is 1, which is never the greater one.
            arrival = max(place - index + wait_of(place, start), before + 1)
        found.append(arrival)
        before = arrival
    return tuple(found)


def threshold_rounds(row, start, threshold):
    """Return the least number of rounds after which the light keys are at the first places.

    Raises NoThreshold(threshold) if threshold is not a threshold of the row.
    """
    return greatest_delay(light_places(row, threshold), start)


def needed_rounds(row, start):
    """Return the least number of rounds after which the row is sorted."""
    return max([rounds for threshold, rounds in threshold_table(row, start)], default=0)


def threshold_table(row, start):
    """Return the ascending tuple of (threshold, number of rounds)."""
    return tuple([
        (threshold, threshold_rounds(row, start, threshold)) for threshold in thresholds(row)
    ])


def better_start(row):
    """Return (start, rounds) for the start with fewer needed rounds, 0 if both need as many."""
    with_zero = needed_rounds(row, 0)
    with_one = needed_rounds(row, 1)
    return (1, with_one) if with_one < with_zero else (0, with_zero)


def travel_bound(row):
    """Return the greatest distance of a key from its place in the sorted row."""
    return max([abs(place - rank) for place, rank in enumerate(ranks(row))])


def delayed_keys(row, start):
    """Return the ascending list of (threshold, place, delay) of all light keys that are not home."""
    found = []
    for threshold in thresholds(row):
        places = light_places(row, threshold)
        for place, delay in zip(places, light_delays(places, start)):
            if delay is not None:
                found.append((threshold, place, delay))
    return found


def critical_keys(row, start):
    """Return the ascending tuple of (threshold, place) whose delay is the needed rounds."""
    needed = needed_rounds(row, start)
    keys = delayed_keys(row, start)
    return tuple([(threshold, place) for threshold, place, delay in keys if delay == needed])


def late_keys(row, start, rounds):
    """Return the ascending tuple of (threshold, place) whose delay is greater than rounds."""
    keys = delayed_keys(row, start)
    return tuple([(threshold, place) for threshold, place, delay in keys if delay > rounds])


def certificate_for(late):
    """Return ("sorted",) if no key is late, or ("late", threshold, place) with the first late key."""
    if len(late) == 0:
        return ("sorted",)
    threshold, place = late[0]
    return ("late", threshold, place)


def certificate(row, start, rounds):
    """Return ("sorted",), or ("late", threshold, place) with the first one of the late keys."""
    return certificate_for(late_keys(row, start, rounds))


def is_certificate_for(late, value):
    """Return whether value is ("sorted",) and no key is late, or ("late", threshold, place) of one."""
    if not isinstance(value, tuple):
        return False
    if value == ("sorted",):
        return len(late) == 0
    if len(value) != 3 or value[0] != "late":
        return False
    # True == 1 and False == 0, so that `in` alone would accept bools.
    if not is_plain_integer(value[1]) or not is_plain_integer(value[2]):
        return False
    return value[1:] in late


def certificate_holds(row, start, rounds, value):
    """Return whether value is a certificate for the row, the start and the rounds."""
    return is_certificate_for(late_keys(row, start, rounds), value)


def is_within(one, other):
    """Return whether each inversion of one is an inversion of other."""
    allowed = inversions(other)
    return all([pair in allowed for pair in inversions(one)])


def next_exchange(row, goal):
    """Return the lowest place of a descending pair of row that is ascending in goal, or None."""
    for place in range(len(row) - 1):
        greater = row[place]
        smaller = row[place + 1]
        if greater > smaller and goal.index(smaller) < goal.index(greater):
            return place
    return None


def exchange_path(one, other):
    """Return the tuple of rows that leads from other to one by exchanges, or None."""
    if not is_within(one, other):
        return None
    rows = [other]
    place = next_exchange(other, one)
    while place is not None:
        rows.append(after_exchange(rows[-1], place))
        place = next_exchange(rows[-1], one)
    return tuple(rows)


def arises_by_exchange(row, before):
    """Return whether row arises from before by an exchange of one descending pair."""
    descending = [place for place in range(len(before) - 1) if before[place] > before[place + 1]]
    return row in [after_exchange(before, place) for place in descending]


def exchange_path_holds(one, other, value):
    """Return whether value is a tuple of rows that leads from other to one by exchanges."""
    # As rows contain no bools, they can be compared with == afterwards.
    if not isinstance(value, tuple) or not all([is_row(item) for item in value]):
        return False
    if len(value) == 0 or value[0] != other or value[-1] != one:
        return False
    return all([arises_by_exchange(value[at], value[at - 1]) for at in range(1, len(value))])
