"""Marks and rows that are sorted after some rounds: how many there are, and their numbers."""

from oddrounds.bounds import COUNT_PLACES, LISTED, MAX_PLACES
from oddrounds.delays import greatest_delay, needed_rounds, wait_of
from oddrounds.errors import BadMarks, NoIndex, TooLong, TooMany, TooSlow
from oddrounds.rounds import after_rounds
from oddrounds.rows import is_integer_between, light_places


def is_marks(value):
    """Return whether value is marks."""
    if not isinstance(value, str) or not 1 <= len(value) <= MAX_PLACES:
        return False
    return all([letter in "HL" for letter in value])


def marks_of(row, threshold):
    """Return the marks of the row for the threshold.

    Raises NoThreshold(threshold) if threshold is not a threshold of the row.
    """
    lights = light_places(row, threshold)
    return "".join(["L" if place in lights else "H" for place in range(len(row))])


def marks_after(marks, start, rounds):
    """Return the marks after the rounds from 1 to rounds."""
    # A heavy place is the greater one in a round, but H is not greater than L.
    weights = tuple([1 if letter == "H" else 0 for letter in marks])
    return "".join(["H" if weight == 1 else "L" for weight in after_rounds(weights, start, rounds)])


def marks_rounds(marks, start):
    """Return the least number of rounds after which the marks are sorted."""
    return greatest_delay([place for place, letter in enumerate(marks) if letter == "L"], start)


def most_marks_rounds(n, lights, start):
    """Return the greatest needed rounds of all marks of n places with so many L."""
    if lights == 0 or lights == n:
        return 0
    return n - 1 + wait_of(n - lights, start)


def light_limit(n, lights, start, rounds, index):
    """Return the greatest place of the L with this index in marks that are sorted after the rounds."""
    limit = index
    for place in range(index + 1, n - lights + index + 1):
        if place - index + wait_of(place, start) + lights - 1 - index <= rounds:
            limit = place
    return limit


def light_limits(n, lights, start, rounds):
    """Return the tuple of the greatest places of each L in marks that are sorted after the rounds."""
    return tuple([light_limit(n, lights, start, rounds, index) for index in range(lights)])


def marks_table(n, lights, start, rounds):
    """Return, for each place and number of L before it, how many marks go on from there.

    The marks that are counted have so many L in all and are sorted after the rounds.
    """
    limits = light_limits(n, lights, start, rounds)
    table = [[0] * lights + [1]]
    for place in reversed(range(n)):
        after = table[-1]
        counts = list(after)
        for index in range(lights):
            if place <= limits[index]:
                counts[index] += after[index + 1]
        table.append(counts)
    return table[::-1]


def count_marks(n, lights, start, rounds):
    """Return the number of marks of n places with so many L that are sorted after the rounds."""
    return marks_table(n, lights, start, rounds)[0][0]


def marks_at(n, lights, start, rounds, index):
    """Return the marks with this index among those that count_marks counts.

    Raises NoIndex(index) if there are none.
    """
    table = marks_table(n, lights, start, rounds)
    if not is_integer_between(index, 0, table[0][0] - 1):
        raise NoIndex(index)
    letters = []
    passed = 0
    for place in range(n):
        before = letters.count("L")
        # All marks that have H here come before those that have L.
        with_heavy = table[place + 1][before]
        if index - passed < with_heavy:
            letters.append("H")
        else:
            letters.append("L")
            passed += with_heavy
    return "".join(letters)


def marks_index(value, start, rounds):
    """Return the index of marks among those with as many L and H that are sorted after the rounds.

    Raises BadMarks() if value is not marks that are sorted after the rounds.
    """
    if not is_marks(value) or marks_rounds(value, start) > rounds:
        raise BadMarks()
    table = marks_table(len(value), value.count("L"), start, rounds)
    index = 0
    for place, letter in enumerate(value):
        if letter == "L":
            index += table[place + 1][value[:place].count("L")]
    return index


def next_marks(value, start, rounds):
    """Return the marks with the index after that of value, or None if there are none.

    Raises BadMarks() if value is not marks that are sorted after the rounds.
    """
    index = marks_index(value, start, rounds) + 1
    lights = value.count("L")
    if index == count_marks(len(value), lights, start, rounds):
        return None
    return marks_at(len(value), lights, start, rounds, index)


def check_length(n):
    """Raise TooLong(COUNT_PLACES) if n places are too many to go through all sets of them."""
    if n > COUNT_PLACES:
        raise TooLong(COUNT_PLACES)


def has_place(places, place):
    """Return whether a set of places, an integer with one bit for each of them, has this one."""
    return places >> place & 1 == 1


def with_place(places, place):
    """Return the set of places with one more place."""
    return places | 1 << place


def rounds_by_places(n, start):
    """Return the list of the needed rounds of the marks that have L at each set of places."""
    found = []
    for places in range(1 << n):
        lights = [place for place in range(n) if has_place(places, place)]
        found.append(greatest_delay(lights, start))
    return found


def count_ways(n, needed, rounds):
    """Return, for each set of places, in how many ways a place list goes on from it.

    needed is the result of rounds_by_places. No place list goes through a set
    whose marks are not sorted after the rounds.
    """
    ways = [0] * len(needed)
    ways[-1] = 1
    # A place more makes the integer greater, so its ways are known already.
    for places in reversed(range(len(needed) - 1)):
        if needed[places] <= rounds:
            free = [place for place in range(n) if not has_place(places, place)]
            ways[places] = sum([ways[with_place(places, place)] for place in free])
    return ways


def ways_within(n, start, rounds):
    """Return, for each set of places, in how many ways place lists of sorted rows go on.

    Raises TooLong(COUNT_PLACES) if n is greater than COUNT_PLACES.
    """
    check_length(n)
    return count_ways(n, rounds_by_places(n, start), rounds)


def count_rows(n, start, rounds):
    """Return the number of rows of the keys 0 to n - 1 that are sorted after the rounds.

    Raises TooLong(COUNT_PLACES) if n is greater than COUNT_PLACES.
    """
    return ways_within(n, start, rounds)[0]


def ways_before(ways, places, place):
    """Return in how many ways a place list goes on from the set with a lower place than this one."""
    lower = [other for other in range(place) if not has_place(places, other)]
    return sum([ways[with_place(places, other)] for other in lower])


def next_place(n, ways, places, index):
    """Return the place with which the place list with this index goes on from the set."""
    free = [place for place in range(n) if not has_place(places, place)]
    return max([place for place in free if ways_before(ways, places, place) <= index])


def listed_row(n, ways, index):
    """Return the row with this index in the order of the place lists."""
    row = [0] * n
    places = 0
    passed = 0
    for key in range(n):
        place = next_place(n, ways, places, index - passed)
        passed += ways_before(ways, places, place)
        places = with_place(places, place)
        row[place] = key
    return tuple(row)


def row_at(n, start, rounds, index):
    """Return the row with this index among those that count_rows counts.

    Raises TooLong(COUNT_PLACES) if n is greater than COUNT_PLACES, and
    NoIndex(index) if there is no such row.
    """
    ways = ways_within(n, start, rounds)
    if not is_integer_between(index, 0, ways[0] - 1):
        raise NoIndex(index)
    return listed_row(n, ways, index)


def row_number(row, start, rounds):
    """Return the index of the row of the keys 0 to n - 1 that has the order of this row.

    Raises TooLong(COUNT_PLACES) if the row has more places, and TooSlow(needed)
    with its needed rounds if it is not sorted after the rounds.
    """
    check_length(len(row))
    needed = needed_rounds(row, start)
    if needed > rounds:
        raise TooSlow(needed)
    ways = ways_within(len(row), start, rounds)
    index = 0
    places = 0
    for key in sorted(row):
        place = row.index(key)
        index += ways_before(ways, places, place)
        places = with_place(places, place)
    return index


def rows_within(n, start, rounds):
    """Return the ascending tuple of the rows that count_rows counts.

    Raises TooLong(COUNT_PLACES) if n is greater than COUNT_PLACES, and
    TooMany(LISTED) if there are more than LISTED rows.
    """
    ways = ways_within(n, start, rounds)
    if ways[0] > LISTED:
        raise TooMany(LISTED)
    return tuple(sorted([listed_row(n, ways, index) for index in range(ways[0])]))


def rounds_counts(n, start):
    """Return, for each k from 0 to n, the number of rows of the keys 0 to n - 1 that need k rounds.

    Raises TooLong(COUNT_PLACES) if n is greater than COUNT_PLACES.
    """
    check_length(n)
    needed = rounds_by_places(n, start)
    counts = []
    for rounds in range(n + 1):
        counts.append(count_ways(n, needed, rounds)[0] - sum(counts))
    return tuple(counts)


def most_rounds(n, start):
    """Return the greatest needed rounds of all rows with n places."""
    if n == 1:
        return 0
    return 1 if n == 2 and start == 0 else n
