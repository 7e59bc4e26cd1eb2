"""Points 99 to 104: runners, their actions and their queries."""

import itertools
import random

from oddrounds.bounds import MAX_KEY
from oddrounds.errors import BadRow, NoPlace, NoRounds, NothingToUndo, NoVersion, TooManyActions
from oddrounds.rows import row_error
from oddrounds.runners import Runner
from tests.acting import QUERIES, RunnerCase, act, random_actions
from tests.checks import BIG, OTHER_VALUES, SAMPLE_ROWS, SHUFFLED_24, ExactCase
from tests.running import pairs_of_round, replayed

STARTS = (0, 1)
# Values that are no integers from 1 to 100, and no places of the rows below.
NO_NUMBERS = (*OTHER_VALUES, BIG, -BIG, -1, "2", (2,), [2], {"a": 2}, "step", "steps", "lose")


class ExamplesTest(ExactCase):
    def test_runner(self):
        runner = Runner((3, 1, 2), 0)
        self.assert_exact([runner.row(), runner.rounds(), runner.compared()], [(3, 1, 2), 0, (0,)])
        self.assert_error(BadRow, {"error": (None, "tuple")}, Runner, [3, 1], 0)

    def test_actions(self):
        runner = Runner((4, 3, 2, 1), 0)
        results = [runner.lose(0), runner.step(), runner.row(), runner.steps(2), runner.row()]
        self.assert_exact(results, [1, 2, (4, 3, 1, 2), 3, (1, 4, 2, 3)])
        self.assert_error(NoPlace, {"value": 1}, Runner((4, 3, 2, 1), 0).lose, 1)

    def test_undo(self):
        runner = Runner((2, 1), 0)
        self.assert_exact([runner.step(), runner.undo(), runner.row(), len(runner)], [1, 0, (2, 1), 0])
        self.assert_error(NothingToUndo, {}, Runner((2, 1), 0).undo)

    def test_versions(self):
        runner = Runner((4, 3, 2, 1), 0)
        self.assert_exact([runner.step(), runner.lose(1), runner.step()], [1, 2, 3])
        results = [
            runner.row(version=1), runner.lost(version=2), runner.row(), runner.rounds(), runner.exchanges(),
        ]
        self.assert_exact(results, [(3, 4, 1, 2), (1,), (3, 4, 1, 2), 2, 2])
        with self.assertRaises(NoVersion) as caught:
            Runner((2, 1), 0).row(version=1)
        self.assert_exact(vars(caught.exception), {"version": 1})

    def test_queries(self):
        runner = Runner((4, 3, 2, 1), 0)
        results = [
            runner.remaining(), runner.lose(2), runner.compared(), runner.step(), runner.remaining(),
            runner.actions(),
        ]
        self.assert_exact(results, [4, 1, (0,), 2, 4, (("lose", 2), ("step",))])


class NewRunnerTest(RunnerCase):
    def test_rows(self):
        for row, start in itertools.product(SAMPLE_ROWS, STARTS):
            self.assert_state(Runner(row, start), row, start, [])

    def test_values_that_are_no_rows(self):
        wrong = (
            (3, 3), (1, None), (1, True), (True,), (False, 1), (-1,), (MAX_KEY + 1,), (1, 2, 1),
            tuple(range(25)), [1], [3, 1], {"row": (1,)}, "1 2", 7, BIG, ((1, 2),),
        )
        for value in (*wrong, *OTHER_VALUES):
            error = row_error(value)
            for start in STARTS:
                if error is None:
                    self.assert_exact(Runner(value, start).row(), value)
                else:
                    self.assert_error(BadRow, {"error": error}, Runner, value, start)

    def test_some_errors_of_rows(self):
        cases = (
            ((4, 9, 4), (2, "duplicate")), ((4, None), (1, "key")), ((), (None, "length")),
            (tuple(range(25)), (None, "length")), (None, (None, "tuple")), ((True,), (0, "key")),
        )
        for value, error in cases:
            self.assert_error(BadRow, {"error": error}, Runner, value, 0)


class ActionsTest(RunnerCase):
    def test_each_action_returns_the_new_version(self):
        for row, start in itertools.product(SAMPLE_ROWS, STARTS):
            for seed in range(3):
                actions = random_actions(row, start, seed, 12)
                runner = Runner(row, start)
                for version, action in enumerate(actions, start=1):
                    self.assert_exact(act(runner, action), version)
                self.assert_state(runner, row, start, actions)

    def test_rows_of_every_length(self):
        for size, start in itertools.product(range(1, 25), STARTS):
            row = tuple(random.Random(size).sample(range(1000), size))
            actions = random_actions(row, start, size, 8)
            runner = Runner(row, start)
            for version, action in enumerate(actions, start=1):
                self.assert_exact(act(runner, action), version)
            self.assert_state(runner, row, start, actions)
            for many in (7, 6, 5):
                self.assert_exact(runner.undo(), many)
            self.assert_state(runner, row, start, actions[:5])

    def test_every_answer_after_every_action(self):
        for row, start in itertools.product(((7,), (2, 1), (4, 3, 2, 1), SHUFFLED_24), STARTS):
            actions = random_actions(row, start, 7, 15)
            runner = Runner(row, start)
            for version, action in enumerate(actions, start=1):
                act(runner, action)
                self.assert_state(runner, row, start, actions[:version])

    def test_steps_is_not_step_and_step_again(self):
        runner = Runner((4, 3, 2, 1), 0)
        self.assert_exact([runner.steps(1), runner.step(), runner.steps(100)], [1, 2, 3])
        self.assert_exact(runner.actions(), (("steps", 1), ("step",), ("steps", 100)))
        self.assert_exact(runner.rounds(), 102)

    def test_losses_count_for_the_first_round_only(self):
        runner = Runner((4, 3, 2, 1), 0)
        self.assert_exact([runner.lose(2), runner.lose(0), runner.lost()], [1, 2, (0, 2)])
        self.assert_exact(runner.compared(), ())
        self.assert_exact([runner.steps(3), runner.lost(), runner.row()], [3, (), (2, 4, 1, 3)])

    def test_counts(self):
        for count in (1, 2, 99, 100):
            runner = Runner((2, 3, 1), 1)
            self.assert_exact([runner.steps(count), runner.rounds()], [1, count])

    def test_all_places_can_be_lost(self):
        for start in STARTS:
            runner = Runner(SHUFFLED_24, start)
            places = runner.compared()
            for place in reversed(places):
                runner.lose(place)
            self.assert_exact(runner.lost(), places)
            self.assert_exact(runner.compared(), ())
            runner.step()
            self.assert_exact([runner.row(), runner.exchanges()], [SHUFFLED_24, 0])

    def test_remaining_after_a_round(self):
        for row, start in itertools.product(SAMPLE_ROWS, STARTS):
            runner = Runner(row, start)
            for action in random_actions(row, start, 11, 20):
                before = runner.remaining()
                nothing_lost = runner.lost() == ()
                act(runner, action)
                if action == ("step",):
                    after = runner.remaining()
                    self.assertLessEqual(abs(after - before), 1)
                    if nothing_lost:
                        self.assertEqual(after, max(before - 1, 0))
                elif action[0] == "lose":
                    self.assertEqual(runner.remaining(), before)


class WrongActionsTest(RunnerCase):
    def test_counts(self):
        for value in (*NO_NUMBERS, 0, 101, 102, 1000):
            runner = Runner((3, 1, 2), 0)
            runner.lose(0)
            self.assert_error(NoRounds, {"value": value}, runner.steps, value)
            self.assert_state(runner, (3, 1, 2), 0, [("lose", 0)])

    def test_places(self):
        for start in STARTS:
            row = (4, 3, 2, 1, 0)
            not_compared = (1, 3) if start == 0 else (0, 2)
            for value in (*NO_NUMBERS, *not_compared, 4, 5, 24, 100):
                runner = Runner(row, start)
                self.assert_error(NoPlace, {"value": value}, runner.lose, value)
                self.assert_state(runner, row, start, [])

    def test_a_place_that_is_lost_already(self):
        runner = Runner((4, 3, 2, 1), 0)
        runner.lose(2)
        self.assert_error(NoPlace, {"value": 2}, runner.lose, 2)
        self.assert_state(runner, (4, 3, 2, 1), 0, [("lose", 2)])

    def test_one_place(self):
        for start, value in itertools.product(STARTS, (0, -1, 1, *OTHER_VALUES)):
            self.assert_error(NoPlace, {"value": value}, Runner((7,), start).lose, value)

    def test_the_errors_have_the_very_value(self):
        runner = Runner((3, 1, 2), 0)
        for value in ([0], {"a": [1]}):
            with self.assertRaises(NoRounds) as caught:
                runner.steps(value)
            self.assertIs(caught.exception.value, value)
            with self.assertRaises(NoPlace) as caught:
                runner.lose(value)
            self.assertIs(caught.exception.value, value)


class UndoTest(RunnerCase):
    def test_all_the_way_back(self):
        for row, start in itertools.product(SAMPLE_ROWS, STARTS):
            actions = random_actions(row, start, 3, 10)
            runner = Runner(row, start)
            for action in actions:
                act(runner, action)
            while actions:
                actions.pop()
                self.assert_exact(runner.undo(), len(actions))
                self.assert_state(runner, row, start, actions)
            self.assert_error(NothingToUndo, {}, runner.undo)
            self.assert_state(runner, row, start, [])

    def test_undo_among_other_actions(self):
        chance = random.Random(5)
        for row, start in itertools.product(((7,), (2, 1), (5, 1, 4, 2, 3), SHUFFLED_24), STARTS):
            runner = Runner(row, start)
            actions = []
            for step in range(60):
                if actions and chance.random() < 0.4:
                    actions.pop()
                    self.assert_exact(runner.undo(), len(actions))
                else:
                    seed = chance.randrange(100)
                    items, rounds, exchanges, lost = replayed(row, start, actions)
                    free = [p for p in pairs_of_round(len(row), start, rounds + 1) if p not in lost]
                    choices = [("step",), ("steps", seed % 5 + 1), *[("lose", p) for p in free]]
                    action = choices[seed % len(choices)]
                    self.assert_exact(act(runner, action), len(actions) + 1)
                    actions.append(action)
            self.assert_state(runner, row, start, actions)
            # Guarantee (i): a new runner with the actions in effect answers the same.
            fresh = Runner(row, start)
            for action in actions:
                act(fresh, action)
            self.assert_state(fresh, row, start, actions)
            self.assertTrue(fresh == runner)

    def test_undo_brings_the_lost_places_back(self):
        runner = Runner((4, 3, 2, 1), 0)
        runner.lose(0)
        runner.lose(2)
        runner.steps(5)
        self.assert_exact([runner.undo(), runner.lost(), runner.compared()], [2, (0, 2), ()])
        self.assert_exact([runner.undo(), runner.lost(), runner.compared()], [1, (0,), (2,)])


class VersionsTest(RunnerCase):
    def test_values_that_are_no_versions(self):
        runner = Runner((4, 3, 2, 1), 0)
        for present in range(4):
            wrong = [value for value in (*OTHER_VALUES, "0", (0,), [0]) if value is not None]
            for value in (*wrong, -1, -2, present + 1, present + 2, 60, BIG, -BIG):
                for query in QUERIES:
                    with self.assertRaises(NoVersion) as caught:
                        getattr(runner, query)(version=value)
                    self.assert_exact(vars(caught.exception), {"version": value})
                    self.assertIs(caught.exception.version, value)
            runner.step()

    def test_versions_after_undo(self):
        runner = Runner((4, 3, 2, 1), 0)
        runner.steps(4)
        runner.undo()
        with self.assertRaises(NoVersion):
            runner.row(version=1)
        runner.lose(0)
        self.assert_exact(runner.row(version=1), (4, 3, 2, 1))
        self.assert_exact(runner.lost(version=1), (0,))
        self.assert_exact(runner.rounds(version=1), 0)

    def test_version_is_passed_by_keyword(self):
        for query in QUERIES:
            with self.assertRaises(TypeError):
                getattr(Runner((2, 1), 0), query)(0)


class SixtyActionsTest(RunnerCase):
    def full_runner(self):
        runner = Runner((4, 3, 2, 1), 0)
        for number in range(60):
            self.assert_exact(runner.step(), number + 1)
        return runner

    def assert_full(self, runner):
        self.assert_error(TooManyActions, {}, runner.step)
        for value in (1, 100, 0, 101, True, None, "1", [1]):
            self.assert_error(TooManyActions, {}, runner.steps, value)
        for value in (0, 1, 2, -1, False, None, "0", [0]):
            self.assert_error(TooManyActions, {}, runner.lose, value)
        self.assert_state(runner, (4, 3, 2, 1), 0, [("step",)] * 60)

    def test_sixty_actions(self):
        self.assert_full(self.full_runner())

    def test_sixty_actions_of_a_copy(self):
        self.assert_full(self.full_runner().copy())

    def test_an_undo_makes_room(self):
        runner = self.full_runner()
        self.assert_exact([runner.undo(), runner.steps(100), len(runner)], [59, 60, 60])
        self.assert_exact(runner.rounds(), 159)
        self.assert_error(TooManyActions, {}, runner.step)

    def test_many_rounds(self):
        runner = Runner(SHUFFLED_24, 1)
        for number in range(60):
            runner.steps(100)
        self.assert_exact([runner.rounds(), runner.row()], [6000, tuple(sorted(SHUFFLED_24))])
        self.assert_exact(runner.compared(), tuple(range(1, 23, 2)))
        self.assert_exact(runner.remaining(), 0)
