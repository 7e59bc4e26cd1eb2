"""Runners: rows that are sorted step by step, with lost comparisons and undo."""

from oddrounds.bounds import BATCH, MAX_ACTIONS, MAX_ROUNDS
from oddrounds.delays import needed_rounds
from oddrounds.errors import BadBatch, BadRow, Busy, NoPlace, NoRounds, NothingToUndo, NoVersion
from oddrounds.errors import Rejected, TooManyActions
from oddrounds.rounds import after_exchange, compared_places, exchanged_places
from oddrounds.rows import is_integer_between, is_plain_integer, row_error

# A state is a tuple (row, number of rounds done, number of exchanges, places lost in the next round).


def next_pairs(state, start):
    """Return the tuple of the places p of the pairs (p, p + 1) of the next round, lost ones included."""
    return compared_places(len(state[0]), start, state[1] + 1)


def next_compared(state, start):
    """Return the tuple of the places p whose pair (p, p + 1) is compared in the next round."""
    return tuple([place for place in next_pairs(state, start) if place not in state[3]])


def after_next_round(state, start):
    """Return the state after the next round."""
    row, rounds, exchanges, lost = state
    for place in exchanged_places(row, start, rounds + 1):
        if place not in lost:
            row = after_exchange(row, place)
            exchanges += 1
    return (row, rounds + 1, exchanges, ())


def after_count(state, start, count):
    """Return the state after count rounds.

    Raises NoRounds(count) if count is not an integer from 1 to MAX_ROUNDS.
    """
    if not is_integer_between(count, 1, MAX_ROUNDS):
        raise NoRounds(count)
    result = state
    for done in range(count):
        result = after_next_round(result, start)
    return result


def after_loss(state, start, place):
    """Return the state in which the comparison at place is lost in the next round, too.

    Raises NoPlace(place) if it is not compared in the next round.
    """
    # True == 1 and False == 0, so that `in` alone would accept bools.
    if not is_plain_integer(place) or place not in next_compared(state, start):
        raise NoPlace(place)
    row, rounds, exchanges, lost = state
    return (row, rounds, exchanges, tuple(sorted(lost + (place,))))


def after_action(state, start, action):
    """Return the state after an action. Raises NoRounds(count) or NoPlace(place)."""
    if action[0] == "lose":
        return after_loss(state, start, action[1])
    return after_count(state, start, 1 if action[0] == "step" else action[1])


def is_action(value):
    """Return whether value has the form of an action, whatever its count or place is."""
    if not isinstance(value, tuple):
        return False
    return value == ("step",) or len(value) == 2 and value[0] in ("steps", "lose")


def read_batch(batch):
    """Return the tuple of the actions of a batch. Raises BadBatch() if it is not a batch."""
    if not isinstance(batch, (list, tuple)) or len(batch) > BATCH:
        raise BadBatch()
    if not all([is_action(item) for item in batch]):
        raise BadBatch()
    return tuple(batch)


class Runner:
    """A row on which rounds are done, one after another."""

    def __init__(self, row, start):
        error = row_error(row)
        if error is not None:
            raise BadRow(error)
        self.start = start
        # The states after 0, 1, 2, .. actions, and the actions. As these are
        # tuples, a copy and an interrupted batch can share and restore them.
        self.states = ((row, 0, 0, ()),)
        self.taken = ()
        self.busy = False

    def step(self):
        """Do the next round. Raises Busy() or TooManyActions()."""
        self.check_free()
        return self.take(("step",))

    def steps(self, count):
        """Do count rounds. Raises Busy(), TooManyActions() or NoRounds(count)."""
        self.check_free()
        return self.take(("steps", count))

    def lose(self, place):
        """Lose a comparison of the next round. Raises Busy(), TooManyActions() or NoPlace(place)."""
        self.check_free()
        return self.take(("lose", place))

    def undo(self):
        """Revert the last action in effect. Raises Busy() or NothingToUndo()."""
        self.check_free()
        if len(self.taken) == 0:
            raise NothingToUndo()
        self.states = self.states[:-1]
        self.taken = self.taken[:-1]
        return len(self.taken)

    def check_free(self):
        """Raise Busy() while on_step runs."""
        if self.busy:
            raise Busy()

    def take(self, action):
        """Do an action, busy or not, and return the new version."""
        if len(self.taken) >= MAX_ACTIONS:
            raise TooManyActions()
        state = after_action(self.states[-1], self.start, action)
        self.states = self.states + (state,)
        self.taken = self.taken + (action,)
        return len(self.taken)

    def state_at(self, version):
        """Return the state after so many actions, the present one for None. Raises NoVersion(version)."""
        if version is None:
            return self.states[-1]
        if not is_integer_between(version, 0, len(self.taken)):
            raise NoVersion(version)
        return self.states[version]

    def row(self, *, version=None):
        """Return the row. Raises NoVersion(version)."""
        return self.state_at(version)[0]

    def rounds(self, *, version=None):
        """Return the number of rounds that were done. Raises NoVersion(version)."""
        return self.state_at(version)[1]

    def exchanges(self, *, version=None):
        """Return the number of exchanges in the rounds that were done. Raises NoVersion(version)."""
        return self.state_at(version)[2]

    def lost(self, *, version=None):
        """Return the ascending tuple of the places lost in the next round. Raises NoVersion(version)."""
        return self.state_at(version)[3]

    def compared(self):
        """Return the ascending tuple of the places that are compared in the next round."""
        return next_compared(self.states[-1], self.start)

    def remaining(self):
        """Return the least number of further rounds after which the row is sorted without losses."""
        return needed_rounds(self.row(), (self.start + self.rounds()) % 2)

    def actions(self):
        """Return the tuple of the actions in effect."""
        return self.taken

    def apply(self, batch, *, on_step=None):
        """Do the actions of a batch, all or none, and call on_step(runner) after each one.

        Raises Busy(), BadBatch() or Rejected(index), and what on_step raises.
        """
        self.check_free()
        actions = read_batch(batch)
        states = self.states
        taken = self.taken
        try:
            self.busy = True
            for index, action in enumerate(actions):
                self.take_from_batch(index, action)
                if on_step is not None:
                    on_step(self)
            states = self.states
            taken = self.taken
        finally:
            self.busy = False
            self.states = states
            self.taken = taken
        return len(self.taken)

    def take_from_batch(self, index, action):
        """Do the action of a batch with this index. Raises Rejected(index) if it fails."""
        try:
            self.take(action)
        except (TooManyActions, NoRounds, NoPlace):
            raise Rejected(index)

    def copy(self):
        """Return an independent runner in the same state with the same actions in effect."""
        other = Runner(self.row(version=0), self.start)
        other.states = self.states
        other.taken = self.taken
        return other

    def pairs(self):
        """Return the tuple of the places of the pairs of the next round, lost ones included."""
        return next_pairs(self.states[-1], self.start)

    def __len__(self):
        return len(self.taken)

    def __eq__(self, other):
        if not isinstance(other, Runner):
            return False
        return self.row() == other.row() and self.lost() == other.lost() and self.pairs() == other.pairs()

    def __str__(self):
        return ", ".join([
            f"{len(self.row())} places", f"{self.rounds()} rounds",
            f"{self.exchanges()} exchanges", f"{len(self.lost())} lost",
        ])
