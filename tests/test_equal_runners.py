"""Point 106: copies, equal runners and their texts."""

import itertools

from oddrounds.errors import NothingToUndo
from oddrounds.runners import Runner
from tests.acting import RunnerCase, act, random_actions
from tests.checks import OTHER_VALUES, SAMPLE_ROWS, SHUFFLED_24
from tests.running import pairs_of_round, replayed

STARTS = (0, 1)


def runner_after(row, start, actions):
    runner = Runner(row, start)
    for action in actions:
        act(runner, action)
    return runner


class CopyTest(RunnerCase):
    def test_example(self):
        one = Runner((1, 2, 3), 0)
        other = one.copy()
        results = [one.steps(2), one == other, len(other), str(one)]
        self.assert_exact(results, [1, True, 0, "3 places, 2 rounds, 0 exchanges, 0 lost"])

    def test_a_copy_has_the_same_state(self):
        for row, start in itertools.product(SAMPLE_ROWS, STARTS):
            for many in (0, 1, 5, 12):
                actions = random_actions(row, start, many, many)
                other = runner_after(row, start, actions).copy()
                self.assertIsInstance(other, Runner)
                self.assert_state(other, row, start, actions)
                self.assert_state(other.copy(), row, start, actions)

    def test_a_copy_can_undo(self):
        actions = random_actions(SHUFFLED_24, 0, 2, 8)
        other = runner_after(SHUFFLED_24, 0, actions).copy()
        for many in reversed(range(8)):
            self.assert_exact(other.undo(), many)
            self.assert_state(other, SHUFFLED_24, 0, actions[:many])
        self.assert_error(NothingToUndo, {}, other.undo)

    def test_the_two_are_independent(self):
        row = (4, 3, 2, 1)
        for change in (lambda r: r.step(), lambda r: r.lose(1), lambda r: r.undo(), lambda r: r.steps(9)):
            actions = [("lose", 0), ("step",)]
            one = runner_after(row, 0, actions)
            other = one.copy()
            change(other)
            self.assert_state(one, row, 0, actions)
            other = one.copy()
            change(one)
            self.assert_state(other, row, 0, actions)

    def test_a_copy_is_another_object(self):
        one = Runner((2, 1), 0)
        self.assertIsNot(one.copy(), one)


class EqualTest(RunnerCase):
    def runners(self):
        """Return pairs of a runner and what decides whether it is equal to another one."""
        found = []
        rows = ((7,), (8,), (1, 2), (2, 1), (1, 2, 3), (3, 2, 1), (2, 1, 3), (1, 2, 3, 4), (4, 3, 2, 1))
        for row, start in itertools.product(rows, STARTS):
            orders = (
                [], [("step",)], [("steps", 2)], [("step",), ("step",)], [("steps", 3)], [("steps", 4)],
                [("steps", 5)], [("steps", 50)], [("steps", 51)],
            )
            for actions in orders:
                items, rounds, exchanges, lost = replayed(row, start, actions)
                pairs = pairs_of_round(len(row), start, rounds + 1)
                for count in range(len(pairs) + 1):
                    for places in itertools.combinations(pairs, count):
                        added = [("lose", place) for place in places]
                        runner = runner_after(row, start, [*actions, *added])
                        found.append((runner, (items, places, pairs)))
        return found

    def test_equal_exactly_if_rows_lost_places_and_pairs_are(self):
        runners = self.runners()
        for (one, of_one), (other, of_other) in itertools.product(runners, runners):
            self.assertIs(one == other, of_one == of_other)
            self.assertIs(one != other, of_one != of_other)

    def test_the_start_matters_only_by_the_pairs(self):
        self.assertFalse(Runner((1, 2), 0) == Runner((1, 2), 1))
        moved = Runner((1, 2), 1)
        moved.step()
        self.assertTrue(Runner((1, 2), 0) == moved)
        self.assertTrue(Runner((7,), 0) == Runner((7,), 1))

    def test_the_order_of_losses_does_not_matter(self):
        one = runner_after((4, 3, 2, 1), 0, [("lose", 0), ("lose", 2)])
        other = runner_after((4, 3, 2, 1), 0, [("lose", 2), ("lose", 0)])
        self.assertTrue(one == other)

    def test_different_exchanges_and_actions(self):
        one = runner_after((2, 1, 3), 0, [("steps", 4)])
        other = Runner((1, 2, 3), 0)
        self.assertTrue(one == other)
        self.assertEqual([len(one), len(other), one.exchanges(), other.exchanges()], [1, 0, 1, 0])

    def test_a_runner_equals_itself_and_its_copy(self):
        for row, start in itertools.product(SAMPLE_ROWS, STARTS):
            runner = runner_after(row, start, random_actions(row, start, 1, 6))
            self.assertTrue(runner == runner)
            self.assertTrue(runner == runner.copy())
            self.assertFalse(runner != runner.copy())

    def test_other_values(self):
        runner = Runner((2, 1), 0)
        others = (*OTHER_VALUES, 0, (2, 1), str(runner), runner.row(), runner.actions(), [runner], Runner)
        for value in others:
            self.assertIs(runner == value, False)
            self.assertIs(value == runner, False)
            self.assertIs(runner != value, True)


class TextTest(RunnerCase):
    def test_str(self):
        runner = Runner((4, 3, 2, 1), 0)
        self.assert_exact(str(runner), "4 places, 0 rounds, 0 exchanges, 0 lost")
        runner.lose(2)
        self.assert_exact(str(runner), "4 places, 0 rounds, 0 exchanges, 1 lost")
        runner.steps(1)
        self.assert_exact(str(runner), "4 places, 1 rounds, 1 exchanges, 0 lost")

    def test_always_with_these_words(self):
        self.assert_exact(str(Runner((7,), 1)), "1 places, 0 rounds, 0 exchanges, 0 lost")
        runner = runner_after((7,), 1, [("step",)])
        self.assert_exact(str(runner), "1 places, 1 rounds, 0 exchanges, 0 lost")

    def test_len(self):
        runner = Runner((2, 1), 0)
        for many in range(5):
            self.assert_exact(len(runner), many)
            runner.steps(7)
