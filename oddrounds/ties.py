"""Tied rows: rows with equal keys, which never pass each other."""

from oddrounds.bounds import MAX_PLACES
from oddrounds.delays import certificate_for, is_certificate_for, light_delays, needed_rounds
from oddrounds.rounds import after_rounds
from oddrounds.rows import inversions, is_key, light_places


def is_tied_row(value):
    """Return whether value is a tied row."""
    if not isinstance(value, tuple) or not 1 <= len(value) <= MAX_PLACES:
        return False
    return all([is_key(item) for item in value])


def standard_form(row):
    """Return the row of the numbers of the items in ascending order, equal ones from left to right."""
    ascending = sorted([(key, place) for place, key in enumerate(row)])
    return tuple([ascending.index((key, place)) for place, key in enumerate(row)])


def tied_after_rounds(row, start, rounds):
    """Return the tied row after the rounds from 1 to rounds."""
    return after_rounds(row, start, rounds)


def item_origins(row, start, rounds):
    """Return, for each place after the rounds, the place from which the item there has come."""
    form = standard_form(row)
    return tuple([form.index(item) for item in after_rounds(form, start, rounds)])


def tied_inversions(row):
    """Return the number of pairs of places whose keys are in descending order."""
    return len(inversions(standard_form(row)))


def tied_delays(row, start, threshold):
    """Return the ascending tuple of (place, delay) of all light keys that are not home.

    Raises NoThreshold(threshold) if threshold is not a threshold of the tied row.
    """
    places = light_places(row, threshold)
    found = light_delays(places, start)
    return tuple([(place, delay) for place, delay in zip(places, found) if delay is not None])


def tied_needed_rounds(row, start):
    """Return the least number of rounds after which the tied row is sorted."""
    return needed_rounds(standard_form(row), start)


def tied_late_keys(row, start, rounds):
    """Return the list of (threshold, place) of all light keys whose delay is greater than rounds."""
    found = []
    for threshold in sorted(set(row))[:-1]:
        for place, delay in tied_delays(row, start, threshold):
            if delay > rounds:
                found.append((threshold, place))
    return found


def tied_certificate(row, start, rounds):
    """Return ("sorted",), or ("late", threshold, place) with the first light key that is late."""
    return certificate_for(tied_late_keys(row, start, rounds))


def tied_certificate_holds(row, start, rounds, value):
    """Return whether value is a certificate for the tied row, the start and the rounds."""
    return is_certificate_for(tied_late_keys(row, start, rounds), value)
