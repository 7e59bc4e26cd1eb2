"""Lost comparisons: rounds in which some pairs are not compared."""

from oddrounds.bounds import MAX_LOSSES, MAX_ROUNDS
from oddrounds.delays import needed_rounds
from oddrounds.errors import BadLosses
from oddrounds.rounds import after_exchange, compared_places, exchanged_places, history
from oddrounds.rows import is_integer_between, is_plain_integer, thresholds


def is_loss(row, start, value):
    """Return whether value is a loss for the row and the start."""
    if not isinstance(value, tuple) or len(value) != 2:
        return False
    number, place = value
    if not is_integer_between(number, 1, MAX_ROUNDS) or not is_plain_integer(place):
        return False
    return place in compared_places(len(row), start, number)


def are_losses(row, start, value):
    """Return whether value is losses for the row and the start."""
    if not isinstance(value, tuple) or len(value) > MAX_LOSSES:
        return False
    if not all([is_loss(row, start, item) for item in value]):
        return False
    return all([value[at - 1] < value[at] for at in range(1, len(value))])


def check_losses(row, start, losses):
    """Raise BadLosses() if losses is not losses for the row and the start."""
    if not are_losses(row, start, losses):
        raise BadLosses()


def round_losses(row, start, number):
    """Return the losses that contain all pairs of the round with this number."""
    return tuple([(number, place) for place in compared_places(len(row), start, number)])


def round_with_losses(row, start, losses, number):
    """Return the row after the round with this number alone, in which pairs may be lost."""
    result = row
    for place in exchanged_places(row, start, number):
        if (number, place) not in losses:
            result = after_exchange(result, place)
    return result


def run_with_losses(row, start, losses, rounds):
    """Return the row after so many rounds of the run with losses.

    Raises BadLosses() if losses is not losses for the row and the start.
    """
    check_losses(row, start, losses)
    result = row
    for number in range(1, rounds + 1):
        result = round_with_losses(result, start, losses, number)
    return result


def needed_with_losses(row, start, losses):
    """Return the least number of rounds of the run with losses after which the row is sorted.

    Raises BadLosses() if losses is not losses for the row and the start.
    """
    check_losses(row, start, losses)
    goal = tuple(sorted(row))
    result = row
    number = 0
    while result != goal:
        number += 1
        result = round_with_losses(result, start, losses, number)
    return number


def idle_pairs(row, start, rounds):
    """Return the ascending tuple of (number, place) of all comparisons that exchange nothing."""
    found = []
    for number, earlier in enumerate(history(row, start, rounds)[:-1], start=1):
        exchanged = exchanged_places(earlier, start, number)
        for place in compared_places(len(row), start, number):
            if place not in exchanged:
                found.append((number, place))
    return tuple(found)


def harmful_losses(row, start):
    """Return the ascending tuple of all losses that alone make the needed rounds greater."""
    needed = needed_rounds(row, start)
    found = []
    # Only the loss of an exchange changes the run, and no exchange is made
    # after the needed rounds.
    for number, earlier in enumerate(history(row, start, needed)[:-1], start=1):
        for place in exchanged_places(earlier, start, number):
            loss = (number, place)
            if needed_with_losses(row, start, (loss,)) > needed:
                found.append(loss)
    return tuple(found)


def first_lag(one, other):
    """Return the smallest (threshold, place) up to which one has fewer light keys than other.

    Returns None if there is none.
    """
    for threshold in thresholds(one):
        # How many more light keys one has than other up to the place.
        lead = 0
        for place in range(len(one)):
            lead += (1 if one[place] <= threshold else 0) - (1 if other[place] <= threshold else 0)
            if lead < 0:
                return (threshold, place)
    return None
