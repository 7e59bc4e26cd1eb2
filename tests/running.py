"""Reference for the tests: rounds that are run pair after pair, and definitions."""


def pairs_of_round(n, start, number):
    """Return the places p of the pairs (p, p + 1), counted in steps of two."""
    first = 0 if (start + number) % 2 == 1 else 1
    return list(range(first, n - 1, 2))


def run_round(items, start, number):
    """Return the items after one round, and how many pairs were exchanged."""
    items = list(items)
    exchanged = 0
    for p in pairs_of_round(len(items), start, number):
        if items[p] > items[p + 1]:
            items[p], items[p + 1] = items[p + 1], items[p]
            exchanged += 1
    return tuple(items), exchanged


def run_rows(items, start, rounds):
    """Return the list of the items and of what they are after each round."""
    rows = [tuple(items)]
    for number in range(1, rounds + 1):
        rows.append(run_round(rows[-1], start, number)[0])
    return rows


def run_exchanges(items, start, rounds):
    """Return how many pairs are exchanged in all these rounds."""
    total = 0
    for number in range(1, rounds + 1):
        items, exchanged = run_round(items, start, number)
        total += exchanged
    return total


def is_sorted(items):
    return list(items) == sorted(items)


def run_needed(items, start):
    """Return after how many rounds the items are sorted for the first time."""
    number = 0
    while not is_sorted(items):
        number += 1
        items = run_round(items, start, number)[0]
    return number


def last_change(items):
    """Return the greatest index at which an item differs from the one before it, or 0."""
    return max([at for at in range(1, len(items)) if items[at] != items[at - 1]], default=0)


def heaviness(row, threshold):
    """Return 0 for each light key of the row and 1 for each heavy one."""
    return tuple(0 if key <= threshold else 1 for key in row)


def zeros(marks):
    return [place for place, mark in enumerate(marks) if mark == 0]


def defined_wait(n, start, place):
    """Return the wait of a light key, as the document defines it."""
    return 0 if place == 0 or place - 1 in pairs_of_round(n, start, 1) else 1


def defined_delays(row, start, threshold):
    """Return a list of (place, delay) of all light keys, as the document defines the delay."""
    places = zeros(heaviness(row, threshold))
    m = len(places)
    found = []
    for j, p in enumerate(places):
        delay = None if p == j else p - j + defined_wait(len(row), start, p) + m - 1 - j
        found.append((p, delay))
    return found


def defined_late(row, start, rounds):
    """Return all (threshold, place) with a delay greater than rounds, ascending."""
    found = []
    for threshold in sorted(row)[:-1]:
        for place, delay in defined_delays(row, start, threshold):
            if delay is not None and delay > rounds:
                found.append((threshold, place))
    return tuple(found)


def expanded(pattern):
    """Return the heavy (1) and light (0) places of a pattern, one by one."""
    items = []
    for at, length in enumerate(pattern):
        items.extend([1 - at % 2] * length)
    return items


def runs_of(items):
    """Return the lengths of the runs of heavy (1) and light (0) places, a heavy run first."""
    runs = [0]
    last = 1
    for item in items:
        if item != last:
            runs.append(0)
            last = item
        runs[-1] += 1
    return tuple(runs)


def weights_of(marks):
    """Return 1 for each letter H of marks and 0 for each letter L."""
    return tuple(1 if letter == "H" else 0 for letter in marks)


def run_marks(marks, start, rounds):
    """Return the list of the marks and of what they are after each round."""
    rows = run_rows(weights_of(marks), start, rounds)
    return ["".join("H" if weight else "L" for weight in row) for row in rows]


def place_list(row):
    """Return the places of the keys of a row, the smallest key first."""
    return tuple(row.index(key) for key in sorted(row))


def run_lossy(row, start, losses, rounds):
    """Return the list of the row and of the rows after each round without the lost pairs."""
    rows = [tuple(row)]
    for number in range(1, rounds + 1):
        items = list(rows[-1])
        for p in pairs_of_round(len(items), start, number):
            if (number, p) not in losses and items[p] > items[p + 1]:
                items[p], items[p + 1] = items[p + 1], items[p]
        rows.append(tuple(items))
    return rows


def lossy_needed(row, start, losses):
    """Return after how many rounds without the lost pairs the row is sorted for the first time."""
    rows = run_lossy(row, start, losses, 100 + len(row))
    return [is_sorted(items) for items in rows].index(True)


def defined_lag(one, other):
    """Return the smallest (threshold, place) up to which one has fewer light keys, or None."""
    lags = []
    for threshold in sorted(one)[:-1]:
        for place in range(len(one)):
            beginnings = (one[:place + 1], other[:place + 1])
            in_one, in_other = [len([k for k in keys if k <= threshold]) for keys in beginnings]
            if in_one < in_other:
                lags.append((threshold, place))
    return min(lags, default=None)


def replayed(row, start, actions):
    """Return (row, rounds, exchanges, lost places) after these actions of a runner, from the beginning."""
    items = list(row)
    rounds = exchanges = 0
    lost = set()
    for action in actions:
        if action[0] == "lose":
            lost.add(action[1])
        else:
            for repeat in range(action[1] if action[0] == "steps" else 1):
                rounds += 1
                for p in pairs_of_round(len(items), start, rounds):
                    if p not in lost and items[p] > items[p + 1]:
                        items[p], items[p + 1] = items[p + 1], items[p]
                        exchanges += 1
                lost = set()
    return tuple(items), rounds, exchanges, tuple(sorted(lost))
