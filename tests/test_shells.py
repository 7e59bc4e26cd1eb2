"""Points 114 to 116: the shell."""

import itertools

from oddrounds.bounds import MAX_KEY
from oddrounds.delays import certificate, certificate_holds
from oddrounds.runners import Runner
from oddrounds.shells import Shell
from oddrounds.texts import certificate_text, parse_certificate
from tests.acting import RunnerCase
from tests.checks import BIG, OTHER_VALUES, SAMPLE_ROWS, SHUFFLED_24
from tests.running import run_needed, run_rows

STARTS = (0, 1)
UNKNOWN = "unknown command"
ROW = (4, 3, 2, 1)
NO_STRINGS = tuple(value for value in OTHER_VALUES if not isinstance(value, str)) + (0, 1, BIG)


def text_of(row):
    return " ".join(str(key) for key in row)


class ExamplesTest(RunnerCase):
    def test_commands_for_the_runner(self):
        shell = Shell(Runner((3, 2, 1), 0))
        results = [shell.execute(line) for line in ("step", "row", "remaining", "lose 9")]
        self.assert_exact(results, ["ok", "2 3 1", "2", "error NoPlace"])

    def test_questions(self):
        shell = Shell(Runner((1,), 0))
        lines = ("needed 0: 3 2 1", "after 2 0: 3 2 1", "after 2 3 2 1")
        self.assert_exact([shell.execute(line) for line in lines], ["3", "2 1 3", UNKNOWN])

    def test_transcript(self):
        shell = Shell(Runner((2, 1), 0))
        results = [shell.execute("rounds"), shell.execute(7), shell.transcript()]
        expected = ["0", UNKNOWN, (("rounds", "0"), (None, UNKNOWN))]
        self.assert_exact(results, expected)


class CommandsTest(RunnerCase):
    def test_the_runner_is_this_very_one(self):
        runner = Runner(ROW, 0)
        shell = Shell(runner)
        self.assert_exact(shell.execute("lose 2"), "ok")
        self.assert_exact(shell.execute("step"), "ok")
        self.assert_state(runner, ROW, 0, [("lose", 2), ("step",)])
        runner.steps(4)
        self.assert_exact([shell.execute("rounds"), shell.execute("row")], ["5", text_of(runner.row())])
        self.assert_exact(shell.execute("undo"), "ok")
        self.assert_exact(shell.execute("undo"), "ok")
        self.assert_state(runner, ROW, 0, [("lose", 2)])

    def test_queries_of_the_runner(self):
        for row, start in itertools.product(SAMPLE_ROWS, STARTS):
            runner = Runner(row, start)
            shell = Shell(runner)
            for number, items in enumerate(run_rows(row, start, 5)):
                self.assert_exact(shell.execute("row"), text_of(items))
                self.assert_exact(shell.execute("rounds"), str(number))
                self.assert_exact(shell.execute("remaining"), str(run_needed(items, (start + number) % 2)))
                self.assert_exact(shell.execute("step"), "ok")
            self.assertEqual(len(runner), 6)

    def test_needed_and_better(self):
        shell = Shell(Runner((1,), 0))
        for row in SAMPLE_ROWS:
            needed = [run_needed(row, start) for start in STARTS]
            for start in STARTS:
                self.assert_exact(shell.execute(f"needed {start}: {text_of(row)}"), str(needed[start]))
            better = 1 if needed[1] < needed[0] else 0
            self.assert_exact(shell.execute(f"better {text_of(row)}"), f"{better} {needed[better]}")

    def test_after_and_certify(self):
        shell = Shell(Runner((1,), 0))
        for row, start in itertools.product(SAMPLE_ROWS, STARTS):
            rows = run_rows(row, start, 100)
            for rounds in (0, 1, 2, 10, 24, 99, 100):
                line = f"after {rounds} {start}: {text_of(row)}"
                self.assert_exact(shell.execute(line), text_of(rows[rounds]))
                answer = shell.execute(f"certify {rounds} {start}: {text_of(row)}")
                self.assert_exact(answer, certificate_text(certificate(row, start, rounds)))
                self.assertTrue(certificate_holds(row, start, rounds, parse_certificate(answer)))

    def test_questions_do_not_touch_the_runner(self):
        runner = Runner(ROW, 0)
        shell = Shell(runner)
        for line in ("needed 0: 2 1", "better 3 1 2", "after 1 0: 2 1", "certify 1 0: 2 1", "row", "rounds"):
            self.assertNotEqual(shell.execute(line), UNKNOWN)
        self.assert_state(runner, ROW, 0, [])

    def test_numbers_of_13_digits(self):
        shell = Shell(Runner(ROW, 0))
        for number in (1, 3, 4, 24, 101, MAX_KEY, MAX_KEY + 1, 10 ** 13 - 1):
            self.assert_exact(shell.execute(f"lose {number}"), "error NoPlace")
        for number in (10 ** 13, 10 ** 13 + 1, 10 ** 39):
            self.assert_exact(shell.execute(f"lose {number}"), UNKNOWN)
        self.assert_exact(shell.execute("lose " + "1" * 2500), UNKNOWN)
        self.assert_exact(shell.execute("lose 0"), "ok")
        self.assert_exact(shell.execute(f"needed 0: {MAX_KEY} 0"), "1")
        self.assert_exact(shell.execute(f"needed 0: {MAX_KEY + 1} 0"), UNKNOWN)

    def test_24_and_25_keys(self):
        shell = Shell(Runner(ROW, 0))
        keys = text_of(range(24))
        for word in ("needed 0: ", "better ", "after 3 1: ", "certify 0 0: "):
            self.assertNotEqual(shell.execute(word + keys), UNKNOWN)
            self.assert_exact(shell.execute(word + keys + " 24"), UNKNOWN)


class UnknownTest(RunnerCase):
    def assert_unknown(self, lines):
        runner = Runner(ROW, 0)
        runner.lose(0)
        shell = Shell(runner)
        for line in lines:
            self.assert_exact(shell.execute(line), UNKNOWN)
        self.assert_state(runner, ROW, 0, [("lose", 0)])

    def test_values_that_are_not_strings(self):
        self.assert_unknown((*NO_STRINGS, ("step",), ["step"], {"step": 1}, b"step"))

    def test_changed_words(self):
        words = ("step", "undo", "row", "rounds", "remaining")
        for word in words:
            self.assert_unknown((
                word.upper(), word.title(), word[:-1], word + "s" if word != "step" else "stepz", word[1:],
                " " + word, word + " ", "  " + word, word + "  ", word + "\n", "\n" + word, word + " 1",
                word + " 0", word + " " + word, word + ":", word + "()", word + "\n" + word, word + " x",
                word.replace("o", " o") if "o" in word else "x",
            ))

    def test_other_lines(self):
        self.assert_unknown((
            "", " ", "  ", "\n", "steps", "steps 1", "steps 2", "copy", "apply", "exchanges", "lost",
            "compared", "actions", "len", "str", "help", "0", "1", "4 3 2 1", "0: 2 1", "sorted",
            "unknown command", "ok", "error", "x" * 3000,
        ))

    def test_lose(self):
        self.assert_unknown((
            "lose", "lose ", "lose  2", "lose 2 ", " lose 2", "lose  ", "lose 02", "lose 00", "lose -1",
            "lose +2", "lose 2\n", "lose\n2", "lose\t2", "lose 2 2", "lose 2,", "lose two", "lose x", "lose 2.0",
            "Lose 2", "LOSE 2", "lose2", "loses 2", "los 2", "lose None", "lose 0x2", "lose 1_0", "lose 2 x",
            "lose 0002", "lose 10000000000000", "lose " + "0" * 2500, "lose " + "2" * 2500,
        ))

    def test_needed(self):
        self.assert_unknown((
            "needed", "needed ", "needed  ", "needed 2 1", "needed 2: 2 1", "needed 0:", "needed 0: ",
            "needed 0:2 1", "needed  0: 2 1", "needed 0:  2 1", "needed 0: 2  1", "needed 0: 2 1 ",
            " needed 0: 2 1", "needed 0: 2 2", "needed 0: 2 01", "needed 0: 2 -1", "needed 0: 2 x",
            "needed 0: 2 1\n", "needed\n0: 2 1", "needed 0:\n2 1", "needed 0 2 1", "needed 00: 2 1",
            "needed 0: 0: 2 1", "Needed 0: 2 1", "NEEDED 0: 2 1", "need 0: 2 1", "neededs 0: 2 1",
            "needed 1 0: 2 1", "needed 0: 2, 1", "needed 0: (2, 1)", "needed 0: " + "1" * 2500,
            "needed0: 2 1", "needed 0: 10000000000000",
        ))

    def test_better(self):
        self.assert_unknown((
            "better", "better ", "better  ", "better 0: 2 1", "better  2 1", "better 2  1", "better 2 1 ",
            " better 2 1", "better 2 2", "better 2 01", "better 2 -1", "better x", "better 2 1\n",
            "better\n2 1", "Better 2 1", "BETTER 2 1", "bette 2 1", "betters 2 1", "better (2, 1)",
            "better 1000000000001", "better " + "1" * 2500,
        ))

    def test_after_and_certify(self):
        for word in ("after", "certify"):
            lines = (
                "", " ", "  ", " 1", " 1 ", " 0: 2 1", " 1 2 1", " 1 2: 2 1", "  1 0: 2 1", " 1  0: 2 1",
                " 1 0:  2 1", " 1 0: 2  1", " 1 0: 2 1 ", " 01 0: 2 1", " 00 0: 2 1", " -1 0: 2 1",
                " +1 0: 2 1", " 1 0: 2 2", " 1 0: 2 1\n", "\n1 0: 2 1", " 1\n0: 2 1", " 1 1 0: 2 1",
                " 101 0: 2 1", " 102 0: 2 1", " 1000 0: 2 1", " 9999999999999 0: 2 1", " 1 0:", " 1 0: ",
                " 10000000000000 0: 2 1", " " + "1" * 2500 + " 0: 2 1", " x 0: 2 1", " 1 0: x", " one 0: 2 1",
                " 1.0 0: 2 1", "1 0: 2 1", "s 1 0: 2 1", " 1 00: 2 1", " 1 0: 2 01", " 1, 0: 2 1", " 0: 2 1 1",
            )
            self.assert_unknown([word + rest for rest in lines])
            self.assert_unknown([" " + word + " 1 0: 2 1", word.upper() + " 1 0: 2 1", word.title() + " 1 0: 2 1"])

    def test_lines_of_every_character(self):
        for number in (10, *range(32, 127)):
            letter = chr(number)
            self.assert_unknown(["step" + letter, letter + "step", "row" + letter, letter])
            if not letter.isdigit():
                self.assert_unknown(["lose 2" + letter, "lose " + letter, "after 1" + letter + " 0: 2 1"])
                self.assert_unknown(["better 2 1" + letter, "needed 0: 2 1" + letter])


class ErrorsTest(RunnerCase):
    def test_undo(self):
        runner = Runner(ROW, 0)
        shell = Shell(runner)
        self.assert_exact(shell.execute("undo"), "error NothingToUndo")
        self.assert_exact([shell.execute("step"), shell.execute("undo")], ["ok", "ok"])
        self.assert_exact(shell.execute("undo"), "error NothingToUndo")
        self.assert_state(runner, ROW, 0, [])

    def test_lose(self):
        runner = Runner(ROW, 0)
        shell = Shell(runner)
        for place in (1, 3, 4, 100, MAX_KEY):
            self.assert_exact(shell.execute(f"lose {place}"), "error NoPlace")
        self.assert_exact([shell.execute("lose 2"), shell.execute("lose 2")], ["ok", "error NoPlace"])
        self.assert_state(runner, ROW, 0, [("lose", 2)])

    def test_sixty_actions(self):
        runner = Runner(ROW, 0)
        shell = Shell(runner)
        for number in range(60):
            self.assert_exact(shell.execute("step"), "ok")
        for line in ("step", "lose 0", "lose 1", "lose 99"):
            self.assert_exact(shell.execute(line), "error TooManyActions")
        self.assert_exact(shell.execute("rounds"), "60")
        self.assert_exact(shell.execute("undo"), "ok")

    def test_busy(self):
        runner = Runner(ROW, 0)
        shell = Shell(runner)
        seen = []

        def look(told):
            for line in ("step", "undo", "lose 0", "lose 1", "lose 99"):
                self.assert_exact(shell.execute(line), "error Busy")
            self.assert_exact(shell.execute("rounds"), str(told.rounds()))
            self.assert_exact(shell.execute("row"), text_of(told.row()))
            self.assert_exact(shell.execute("remaining"), str(told.remaining()))
            self.assert_exact(shell.execute("needed 0: 2 1"), "1")
            self.assert_exact(shell.execute("lose"), UNKNOWN)
            seen.append(len(told))

        self.assert_exact(runner.apply([("step",), ("steps", 2)], on_step=look), 2)
        self.assertEqual(seen, [1, 2])
        self.assert_exact(shell.execute("undo"), "ok")
        self.assert_state(runner, ROW, 0, [("step",)])


class TranscriptTest(RunnerCase):
    def test_fewer_than_30_lines(self):
        shell = Shell(Runner(SHUFFLED_24, 0))
        self.assert_exact(shell.transcript(), ())
        expected = []
        for line in ("step", "lose 99", "jump", "", "row", "undo", "undo", None, 7, ["step"], {"a": 1}, "rounds"):
            answer = shell.execute(line)
            expected.append((line if isinstance(line, str) else None, answer))
            self.assert_exact(shell.transcript(), tuple(expected))

    def test_more_than_30_lines(self):
        shell = Shell(Runner(ROW, 0))
        expected = []
        for number in range(75):
            line = f"lose {number}" if number % 3 else number
            answer = shell.execute(line)
            expected.append((line if number % 3 else None, answer))
            self.assert_exact(shell.transcript(), tuple(expected[-30:]))
        self.assertEqual(len(shell.transcript()), 30)

    def test_a_returned_transcript_does_not_change(self):
        shell = Shell(Runner(ROW, 0))
        shell.execute("step")
        first = shell.transcript()
        for number in range(40):
            shell.execute("row")
        self.assert_exact(first, (("step", "ok"),))

    def test_the_transcript_is_not_in_the_transcript(self):
        shell = Shell(Runner(ROW, 0))
        shell.execute("rounds")
        self.assert_exact([shell.transcript(), shell.transcript()], [(("rounds", "0"),)] * 2)

    def test_two_shells_on_one_runner(self):
        runner = Runner(ROW, 0)
        one = Shell(runner)
        other = Shell(runner)
        self.assert_exact([one.execute("step"), other.execute("rounds")], ["ok", "1"])
        self.assert_exact([other.execute("lose 1"), one.execute("step"), other.execute("row")],
                          ["ok", "ok", "3 4 1 2"])
        self.assert_exact(one.transcript(), (("step", "ok"), ("step", "ok")))
        self.assert_exact(other.transcript(), (("rounds", "1"), ("lose 1", "ok"), ("row", "3 4 1 2")))
        self.assert_state(runner, ROW, 0, [("step",), ("lose", 1), ("step",)])

    def test_a_shell_of_a_copy(self):
        runner = Runner(ROW, 0)
        shell = Shell(runner.copy())
        shell.execute("step")
        self.assert_state(runner, ROW, 0, [])
