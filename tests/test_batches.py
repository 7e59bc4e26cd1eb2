"""Point 105: batches of actions."""

import itertools
import random

from oddrounds.errors import BadBatch, Busy, NoPlace, NoVersion, Rejected, RowError
from oddrounds.runners import Runner
from tests.acting import RunnerCase, act, random_actions
from tests.checks import BIG, OTHER_VALUES, SAMPLE_ROWS, SHUFFLED_24

STARTS = (0, 1)
ROW = (4, 3, 2, 1)


class StopNow(Exception):
    """An error that on_step raises."""


def prepared():
    """Return a runner with two actions in effect, and these actions."""
    runner = Runner(ROW, 0)
    runner.lose(0)
    runner.step()
    return runner, [("lose", 0), ("step",)]


class ApplyTest(RunnerCase):
    def test_examples(self):
        runner = Runner((3, 2, 1), 0)
        results = [runner.apply([("lose", 0), ("steps", 3)]), runner.row(), len(runner)]
        self.assert_exact(results, [2, (1, 3, 2), 2])
        batch = [("step",), ("lose", 0)]
        self.assert_error(Rejected, {"index": 1}, Runner((3, 2, 1), 0).apply, batch)

    def test_lists_and_tuples(self):
        for row, start in itertools.product(SAMPLE_ROWS, STARTS):
            for many in (0, 1, 2, 19, 20):
                actions = random_actions(row, start, many, many)
                for batch in (actions, tuple(actions)):
                    runner = Runner(row, start)
                    self.assert_exact(runner.apply(batch), many)
                    self.assert_state(runner, row, start, actions)

    def test_batches_of_every_length(self):
        for many in range(21):
            actions = random_actions(SHUFFLED_24, 0, many, many)
            for batch in (actions, tuple(actions)):
                runner = Runner(SHUFFLED_24, 0)
                self.assert_exact(runner.apply(batch), many)
                self.assert_state(runner, SHUFFLED_24, 0, actions)

    def test_several_batches(self):
        actions = random_actions(SHUFFLED_24, 1, 4, 60)
        runner = Runner(SHUFFLED_24, 1)
        for at in (0, 20, 40):
            self.assert_exact(runner.apply(actions[at:at + 20]), at + 20)
        self.assert_state(runner, SHUFFLED_24, 1, actions)

    def test_each_action_can_be_undone_by_itself(self):
        actions = random_actions(ROW, 0, 8, 20)
        runner = Runner(ROW, 0)
        runner.apply(actions)
        for many in reversed(range(20)):
            self.assert_exact(runner.undo(), many)
            self.assert_state(runner, ROW, 0, actions[:many])

    def test_no_actions(self):
        runner, before = prepared()
        calls = []
        for batch in ([], ()):
            self.assert_exact(runner.apply(batch), 2)
            self.assert_exact(runner.apply(batch, on_step=calls.append), 2)
        self.assertEqual(calls, [])
        self.assert_state(runner, ROW, 0, before)

    def test_the_batch_does_not_change(self):
        batch = [("step",), ("lose", 1), ("steps", 3)]
        Runner(ROW, 0).apply(batch)
        self.assert_exact(batch, [("step",), ("lose", 1), ("steps", 3)])
        batch = [("step",), ("lose", [0])]
        self.assert_error(Rejected, {"index": 1}, Runner(ROW, 0).apply, batch)
        self.assert_exact(batch, [("step",), ("lose", [0])])

    def test_on_step_is_passed_by_keyword(self):
        with self.assertRaises(TypeError):
            Runner(ROW, 0).apply([], None)


class BadBatchTest(RunnerCase):
    def assert_bad(self, batch):
        runner, before = prepared()
        self.assert_error(BadBatch, {}, runner.apply, batch)
        self.assert_state(runner, ROW, 0, before)
        self.assertEqual(runner.step(), 3)

    def test_values_of_other_kinds(self):
        for batch in (*OTHER_VALUES, 0, 1, BIG, "step", ("step",), ["step"], {"step": 1}, {"a": ("step",)}):
            if batch not in ((), []):
                self.assert_bad(batch)

    def test_21_actions(self):
        for many in (21, 22, 60, 100):
            self.assert_bad([("step",)] * many)
            self.assert_bad((("step",),) * many)

    def test_actions_of_a_wrong_form(self):
        wrong = (
            (), ("step", 1), ("step", None), ("steps",), ("steps", 1, 2), ("lose",), ("lose", 0, 1),
            ("undo",), ("apply", []), ("copy",), ("row",), ("Step",), ("STEP",), ("step ",), ("", 1),
            ("jump", 1), ("Lose", 0), (None,), (0,), (1, 1), (["step"],), (("step",),), ["step"],
            ["steps", 1], ["lose", 0], [("step",)], "step", "s", None, True, 0, 7, {"step": 1}, {},
            ("steps", 1, None), ([], 1), ({}, 1), (("lose",), 0), ("step", "step"), (True, 1), ("stepss", 2),
        )
        for action in wrong:
            self.assert_bad([action])
            self.assert_bad((action,))
            self.assert_bad([("step",), action])
            self.assert_bad([action, ("step",)])
            # The form of all actions is seen before the first one is done.
            self.assert_bad([("lose", 99), action])

    def test_bad_batches_do_not_call_on_step(self):
        runner, before = prepared()
        calls = []
        with self.assertRaises(BadBatch):
            runner.apply([("step",), ("jump",)], on_step=calls.append)
        self.assertEqual(calls, [])


class RejectedTest(RunnerCase):
    def test_the_index_of_the_first_action_that_fails(self):
        good = [("step",), ("steps", 2), ("lose", 0), ("step",)]
        wrong = (
            *[("steps", value) for value in (0, 101, -1, BIG, *OTHER_VALUES)],
            *[("lose", value) for value in (-1, 4, BIG, *OTHER_VALUES)],
        )
        for action in wrong:
            for index in range(len(good) + 1):
                batch = [*good[:index], action, *good[index:], ("lose", 99)]
                for kind in (list, tuple):
                    runner, before = prepared()
                    self.assert_error(Rejected, {"index": index}, runner.apply, kind(batch))
                    self.assert_state(runner, ROW, 0, before)

    def test_the_same_place_twice(self):
        runner, before = prepared()
        batch = [("lose", 1), ("lose", 1)]
        self.assert_error(Rejected, {"index": 1}, runner.apply, batch)
        self.assert_state(runner, ROW, 0, before)

    def test_more_than_sixty_actions(self):
        runner = Runner(ROW, 0)
        for number in range(50):
            runner.step()
        before = [("step",)] * 50
        self.assert_error(Rejected, {"index": 10}, runner.apply, [("step",)] * 11)
        self.assert_error(Rejected, {"index": 10}, runner.apply, [("step",)] * 20)
        self.assert_error(Rejected, {"index": 4}, runner.apply, [("step",)] * 4 + [("lose", 9)])
        self.assert_state(runner, ROW, 0, before)
        self.assert_exact(runner.apply([("step",)] * 10), 60)
        self.assert_error(Rejected, {"index": 0}, runner.apply, [("steps", None)])
        self.assert_exact(runner.apply([]), 60)

    def test_on_step_is_not_called_for_the_action_that_fails(self):
        runner, before = prepared()
        versions = []
        with self.assertRaises(Rejected):
            batch = [("step",), ("step",), ("steps", 0), ("step",)]
            runner.apply(batch, on_step=lambda told: versions.append(len(told)))
        self.assertEqual(versions, [3, 4])
        self.assert_state(runner, ROW, 0, before)

    def test_the_runner_goes_on_after_it(self):
        runner, before = prepared()
        self.assert_error(Rejected, {"index": 0}, runner.apply, [("lose", 0)])
        self.assert_exact([runner.lose(1), runner.undo(), runner.undo()], [3, 2, 1])


class OnStepTest(RunnerCase):
    def test_it_gets_this_runner_after_each_action(self):
        for row, start in itertools.product((ROW, (7,), SHUFFLED_24), STARTS):
            actions = random_actions(row, start, 6, 14)
            runner = Runner(row, start)
            runner.apply(actions[:3])
            seen = []

            def look(told):
                self.assertIs(told, runner)
                seen.append(len(told))
                self.assert_state(told, row, start, actions[:len(told)])

            self.assert_exact(runner.apply(actions[3:], on_step=look), 14)
            self.assertEqual(seen, list(range(4, 15)))
            self.assert_state(runner, row, start, actions)

    def test_what_it_returns_has_no_effect(self):
        for result in (*OTHER_VALUES, 0, NotImplemented, StopIteration):
            runner, before = prepared()
            self.assert_exact(runner.apply([("step",), ("step",)], on_step=lambda told: result), 4)
            self.assert_state(runner, ROW, 0, [*before, ("step",), ("step",)])

    def test_what_it_raises_propagates(self):
        errors = (
            StopNow("x"), ValueError("x"), KeyError("x"), StopIteration(), KeyboardInterrupt(),
            NoPlace(3), Rejected(7), Busy(), BadBatch(), RowError("x"), NoVersion(None),
        )
        for error, at in itertools.product(errors, (1, 2, 3)):
            runner, before = prepared()
            calls = []

            def stop(told):
                calls.append(len(told))
                if len(calls) == at:
                    raise error

            with self.assertRaises(type(error)) as caught:
                runner.apply([("step",), ("lose", 0), ("steps", 2)], on_step=stop)
            self.assertIs(caught.exception, error)
            self.assertEqual(len(calls), at)
            self.assert_state(runner, ROW, 0, before)
            # It is not busy any more.
            self.assert_exact([runner.step(), runner.undo()], [3, 2])

    def busy_calls(self, runner):
        batches = ([], [("step",)], None, [("jump",)], [("step",)] * 21, [("lose", 9)])
        calls = [
            runner.step, runner.undo, *[lambda value=value: runner.steps(value) for value in (1, 0, None, [1])],
            *[lambda value=value: runner.lose(value) for value in (0, 1, 99, None, True, [0])],
            *[lambda batch=batch: runner.apply(batch) for batch in batches],
            lambda: runner.apply([("step",)], on_step=lambda told: None),
        ]
        return calls

    def test_the_runner_is_busy(self):
        for row in (ROW, (7,), SHUFFLED_24):
            runner = Runner(row, 0)
            tried = []

            def try_all(told):
                for call in self.busy_calls(runner):
                    self.assert_error(Busy, {}, call)
                    tried.append(call)
                self.assert_state(runner, row, 0, [("step",)] * len(told))

            self.assert_exact(runner.apply([("step",)] * 3, on_step=try_all), 3)
            self.assertGreater(len(tried), 30)
            self.assert_state(runner, row, 0, [("step",)] * 3)

    def test_busy_comes_before_other_errors(self):
        runner = Runner(ROW, 0)
        for number in range(59):
            runner.step()

        def try_all(told):
            # Sixty actions are in effect, which is another error.
            self.assertEqual(len(told), 60)
            for call in self.busy_calls(runner):
                self.assert_error(Busy, {}, call)

        self.assert_exact(runner.apply([("step",)], on_step=try_all), 60)

    def test_a_busy_error_that_is_not_caught(self):
        runner, before = prepared()
        with self.assertRaises(Busy):
            runner.apply([("step",), ("step",)], on_step=lambda told: told.step())
        self.assert_state(runner, ROW, 0, before)
        self.assert_exact(runner.step(), 3)

    def test_queries_of_versions_inside(self):
        runner, before = prepared()

        def look(told):
            for query in (told.row, told.rounds, told.exchanges, told.lost):
                with self.assertRaises(NoVersion):
                    query(version=len(told) + 1)

        runner.apply([("step",), ("steps", 2)], on_step=look)

    def test_copies_inside_are_not_busy(self):
        runner, before = prepared()
        copies = []

        def keep(told):
            other = told.copy()
            self.assert_state(other, ROW, 0, [*before, *[("step",)] * (len(told) - 2)])
            self.assertTrue(other == told)
            copies.append(other)
            changed = told.copy()
            self.assert_exact(changed.undo(), len(told) - 1)
            self.assert_exact(changed.apply([("steps", 2)]), len(told))
            self.assert_error(Busy, {}, told.step)

        runner.apply([("step",)] * 3, on_step=keep)
        for many, other in enumerate(copies, start=1):
            self.assert_state(other, ROW, 0, [*before, *[("step",)] * many])
            other.step()
        self.assert_state(runner, ROW, 0, [*before, *[("step",)] * 3])

    def test_a_copy_stays_when_the_batch_is_reverted(self):
        runner, before = prepared()
        copies = []

        def keep(told):
            copies.append(told.copy())
            if len(copies) == 2:
                raise StopNow()

        with self.assertRaises(StopNow):
            runner.apply([("step",)] * 3, on_step=keep)
        self.assert_state(runner, ROW, 0, before)
        self.assert_state(copies[1], ROW, 0, [*before, ("step",), ("step",)])

    def test_the_batch_is_read_once(self):
        changes = (
            lambda batch: batch.clear(), lambda batch: batch.append(("step",)),
            lambda batch: batch.insert(0, ("lose", 99)), lambda batch: batch.reverse(),
            lambda batch: batch.extend([None] * 30), lambda batch: batch.pop(),
        )
        for change in changes:
            runner, before = prepared()
            batch = [("step",), ("lose", 0), ("steps", 2)]
            self.assert_exact(runner.apply(batch, on_step=lambda told: change(batch)), 5)
            expected = [*before, ("step",), ("lose", 0), ("steps", 2)]
            self.assert_state(runner, ROW, 0, expected)

    def test_a_later_change_of_the_batch_has_no_effect(self):
        runner, before = prepared()
        batch = [("step",), ("lose", 0)]
        runner.apply(batch)
        batch.clear()
        self.assert_state(runner, ROW, 0, [*before, ("step",), ("lose", 0)])

    def test_another_runner_is_not_busy(self):
        runner, before = prepared()
        other = Runner((3, 2, 1), 1)
        runner.apply([("step",)] * 2, on_step=lambda told: other.step())
        self.assert_state(other, (3, 2, 1), 1, [("step",)] * 2)
        nested = []

        def inner(told):
            nested.append(len(told))
            self.assert_error(Busy, {}, runner.step)
            self.assert_error(Busy, {}, other.step)

        runner.apply([("step",)] * 2, on_step=lambda told: other.apply([("step",)], on_step=inner))
        self.assertEqual(nested, [3, 4])
        self.assert_exact([runner.undo(), other.undo()], [5, 3])


class GuaranteeTest(RunnerCase):
    """Guarantee (i): a runner answers as one on which only the actions in effect were done."""

    def test_actions_undos_and_batches_in_any_order(self):
        for row, start, seed in itertools.product(((7,), (2, 1), (5, 1, 4, 2, 3), SHUFFLED_24), STARTS, (1, 2)):
            chance = random.Random(seed)
            runner = Runner(row, start)
            for turn in range(40):
                kept = list(runner.actions())
                choice = chance.randrange(6)
                if choice == 0 and kept:
                    runner.undo()
                elif choice == 1:
                    self.assert_error(Rejected, {"index": 1}, runner.apply, [("step",), ("lose", 98)])
                elif choice == 2:
                    with self.assertRaises(StopNow):
                        runner.apply([("steps", 2)], on_step=self.raise_stop)
                elif choice == 3:
                    runner = runner.copy()
                elif len(kept) < 50:
                    batch = random_actions(runner.row(), (start + runner.rounds()) % 2, turn, 3)
                    if runner.lost() == ():
                        runner.apply(batch)
                actions = list(runner.actions())
                fresh = Runner(row, start)
                for action in actions:
                    act(fresh, action)
                self.assertTrue(fresh == runner)
                self.assert_exact(fresh.actions(), runner.actions())
                self.assert_state(runner, row, start, actions)

    def raise_stop(self, told):
        raise StopNow()
