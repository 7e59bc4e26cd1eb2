"""The shell: commands for a runner and questions about rows, as texts."""

from oddrounds.bounds import HISTORY, MAX_ROUNDS
from oddrounds.delays import better_start, certificate, needed_rounds
from oddrounds.errors import BadText, Busy, NoPlace, NothingToUndo, TooManyActions
from oddrounds.rounds import after_rounds
from oddrounds.texts import certificate_text, integer_of, parse_row, parse_start, row_text

UNKNOWN = "unknown command"
GREATEST_NUMBER = 10 ** 13 - 1


def answer_action(runner, line):
    """Return the answer to a command that acts on the runner, or None if it is not one."""
    word, space, rest = line.partition(" ")
    place = integer_of(rest, GREATEST_NUMBER)
    if line == "step":
        runner.step()
    elif line == "undo":
        runner.undo()
    elif word == "lose" and place is not None:
        runner.lose(place)
    else:
        return None
    return "ok"


def answer_safely(runner, line):
    """Return the answer to a command that acts on the runner, also if it raises an error, or None."""
    # Only these errors can be raised by the commands.
    try:
        return answer_action(runner, line)
    except Busy:
        return "error Busy"
    except TooManyActions:
        return "error TooManyActions"
    except NothingToUndo:
        return "error NothingToUndo"
    except NoPlace:
        return "error NoPlace"


def answer_query(runner, line):
    """Return the answer to a question about the runner, or None if line is not one."""
    if line == "row":
        return row_text(runner.row())
    if line == "rounds":
        return str(runner.rounds())
    if line == "remaining":
        return str(runner.remaining())
    return None


def answer_rounds(word, rest):
    """Return the answer to after or certify with these arguments, or None.

    Raises BadText(index) if the last argument is not the text of a row with a start.
    """
    number, space, following = rest.partition(" ")
    rounds = integer_of(number, MAX_ROUNDS)
    row, start = parse_start(following)
    if rounds is None:
        return None
    if word == "after":
        return row_text(after_rounds(row, start, rounds))
    return certificate_text(certificate(row, start, rounds))


def answer_question(line):
    """Return the answer to a question about a row in the line, or None if line is not one.

    Raises BadText(index) if the row is not the text of one.
    """
    word, space, rest = line.partition(" ")
    if word == "needed":
        row, start = parse_start(rest)
        return str(needed_rounds(row, start))
    if word == "better":
        start, rounds = better_start(parse_row(rest))
        return f"{start} {rounds}"
    if word in ("after", "certify"):
        return answer_rounds(word, rest)
    return None


def answer_line(runner, line):
    """Return the answer to a line."""
    answer = answer_safely(runner, line)
    if answer is None:
        answer = answer_query(runner, line)
    if answer is None:
        try:
            answer = answer_question(line)
        except BadText:
            return UNKNOWN
    return UNKNOWN if answer is None else answer


class Shell:
    """A shell that works on a runner."""

    def __init__(self, runner):
        self.runner = runner
        self.answered = ()

    def execute(self, value):
        """Return the answer to a command, and to every other value."""
        line = value if isinstance(value, str) else None
        answer = UNKNOWN if line is None else answer_line(self.runner, line)
        self.answered = (self.answered + ((line, answer),))[-HISTORY:]
        return answer

    def transcript(self):
        """Return the tuple of the last pairs (line, answer), the oldest first."""
        return self.answered
