"""What the tests of runners share: actions, and a check of every answer."""

import random

from tests.checks import ExactCase
from tests.running import pairs_of_round, replayed, run_needed

QUERIES = ("row", "rounds", "exchanges", "lost")


def act(runner, action):
    """Do an action that is given in the form of actions()."""
    return getattr(runner, action[0])(*action[1:])


def random_actions(row, start, seed, many):
    """Return a list of actions that can be done one after another."""
    chance = random.Random(seed)
    actions = []
    while len(actions) < many:
        items, rounds, exchanges, lost = replayed(row, start, actions)
        free = [p for p in pairs_of_round(len(row), start, rounds + 1) if p not in lost]
        if free and chance.random() < 0.6:
            actions.append(("lose", chance.choice(free)))
        elif chance.random() < 0.7:
            actions.append(("step",))
        else:
            actions.append(("steps", chance.choice((1, 2, 3, 100))))
    return actions


class RunnerCase(ExactCase):
    def assert_state(self, runner, row, start, actions):
        """Check every answer of a runner against these actions on its first row."""
        for version in range(len(actions) + 1):
            expected = replayed(row, start, actions[:version])
            result = tuple(getattr(runner, query)(version=version) for query in QUERIES)
            self.assert_exact(result, expected)
        items, rounds, exchanges, lost = replayed(row, start, actions)
        for version in ({}, {"version": None}):
            result = tuple(getattr(runner, query)(**version) for query in QUERIES)
            self.assert_exact(result, (items, rounds, exchanges, lost))
        pairs = pairs_of_round(len(row), start, rounds + 1)
        self.assert_exact(runner.compared(), tuple(p for p in pairs if p not in lost))
        self.assert_exact(runner.remaining(), run_needed(items, (start + rounds) % 2))
        self.assert_exact(runner.actions(), tuple(actions))
        self.assert_exact(len(runner), len(actions))
        text = f"{len(row)} places, {rounds} rounds, {exchanges} exchanges, {len(lost)} lost"
        self.assert_exact(str(runner), text)
