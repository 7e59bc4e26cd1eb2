"""Patterns: long rows of heavy and light places, given by the lengths of their runs."""

from oddrounds.bounds import MAX_LENGTH, MAX_RUNS
from oddrounds.delays import wait_of
from oddrounds.errors import NoIndex, NoPlace, TooMany
from oddrounds.places import light_place_after
from oddrounds.rows import is_integer_between, light_places


def is_pattern(value):
    """Return whether value is a pattern."""
    if not isinstance(value, tuple) or not 1 <= len(value) <= MAX_RUNS:
        return False
    for at, length in enumerate(value):
        # Only the first run may be empty.
        if not is_integer_between(length, min(at, 1), MAX_LENGTH):
            return False
    return 1 <= sum(value) <= MAX_LENGTH


def check_runs(runs):
    """Raise TooMany(MAX_RUNS) if there are more than MAX_RUNS runs."""
    if len(runs) > MAX_RUNS:
        raise TooMany(MAX_RUNS)


def pattern_of(row, threshold):
    """Return the pattern of a row for a threshold.

    Raises NoThreshold(threshold) if threshold is not a threshold of the row,
    then TooMany(MAX_RUNS) if there are more than MAX_RUNS runs.
    """
    lights = light_places(row, threshold)
    runs = [0]
    last_is_light = False
    for place in range(len(row)):
        if (place in lights) != last_is_light:
            runs.append(0)
            last_is_light = not last_is_light
        runs[-1] += 1
    check_runs(runs)
    return tuple(runs)


def light_total(pattern):
    """Return the number of light keys."""
    return sum(pattern[1::2])


def run_heads(pattern, start):
    """Return the list of (index, place, wait) of the first light key of each run."""
    heads = []
    index = 0
    place = 0
    for at, length in enumerate(pattern):
        if at % 2 == 1:
            heads.append((index, place, wait_of(place, start)))
            index += length
        place += length
    return heads


def arrival_of(pattern, start, index):
    """Return the least number of rounds after which the light key with this index is home."""
    arrival = 0
    for head, place, wait in run_heads(pattern, start):
        # The key comes up to each head before it that is not home, and then
        # arrives as many rounds after it as it stands behind it.
        if head <= index and place != head:
            arrival = max(arrival, place - head + wait + index - head)
    return arrival


def pattern_rounds(pattern, start):
    """Return the least number of rounds after which all light keys are home."""
    # The last light key is the last one to arrive. Without light keys its
    # index is -1, and no head stands before it.
    return arrival_of(pattern, start, light_total(pattern) - 1)


def check_index(pattern, index):
    """Raise NoIndex(index) if the pattern has no light key with this index."""
    if not is_integer_between(index, 0, light_total(pattern) - 1):
        raise NoIndex(index)


def light_place(pattern, start, index, rounds):
    """Return the place of the light key with this index after so many rounds.

    Raises NoIndex(index) if index is not an integer from 0 to
    light_total(pattern) - 1.
    """
    check_index(pattern, index)
    return light_place_after(run_heads(pattern, start), index, rounds)


def light_arrival(pattern, start, index):
    """Return the least number of rounds after which the light key with this index is home.

    Raises NoIndex(index) if index is not an integer from 0 to
    light_total(pattern) - 1.
    """
    check_index(pattern, index)
    return arrival_of(pattern, start, index)


def count_leading(total, holds):
    """Return for how many of the indices from 0 to total - 1 holds is True.

    These must be the first ones.
    """
    low = 0
    high = total
    while low < high:
        middle = (low + high) // 2
        if holds(middle):
            low = middle + 1
        else:
            high = middle
    return low


def light_before(pattern, start, place, rounds):
    """Return the number of light keys at places less than place after so many rounds.

    Raises NoPlace(place) if place is not an integer from 0 to the length of
    the pattern.
    """
    if not is_integer_between(place, 0, sum(pattern)):
        raise NoPlace(place)
    heads = run_heads(pattern, start)
    return count_leading(
        light_total(pattern), lambda index: light_place_after(heads, index, rounds) < place
    )


def light_run_end(heads, total, heavy, rounds):
    """Return how many light keys have at most so many heavy keys before them after the rounds."""
    return count_leading(
        total, lambda index: light_place_after(heads, index, rounds) - index <= heavy
    )


def pattern_after(pattern, start, rounds):
    """Return the pattern after so many rounds.

    Raises TooMany(MAX_RUNS) if it would have more than MAX_RUNS runs.
    """
    heads = run_heads(pattern, start)
    total = light_total(pattern)
    runs = []
    index = 0
    listed = 0
    while index < total:
        # The light keys of one run have as many heavy keys before them, and
        # those of each later run have more.
        heavy = light_place_after(heads, index, rounds) - index
        end = light_run_end(heads, total, heavy, rounds)
        runs.extend([heavy - listed, end - index])
        # A long pattern may break up into more runs than could be listed.
        check_runs(runs)
        index = end
        listed = heavy
    if sum(pattern) - total > listed:
        runs.append(sum(pattern) - total - listed)
    check_runs(runs)
    return tuple(runs)
