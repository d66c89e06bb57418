"""The desk, at which a bench is worked at and asked by words."""

from leastpromise.commands import deed_of, number_of, numbers_line, numbers_lines, opened, verdict_line
from leastpromise.errors import InvalidCommand
from leastpromise.events import frame_events
from leastpromise.live import Live
from leastpromise.texts import frame_text, processor_text, program_text


class Desk:
    """Commands are said to it; it does them, and shows what they ask for."""

    def __init__(self):
        self.live = None

    def say(self, command):
        """Does what the command says, and tells what is shown."""
        if not isinstance(command, str):
            raise InvalidCommand()
        lines = command.split("\n")
        if lines[0] == "open":
            frame, processor, program, data = opened(lines[1:])
            self.live = Live(frame, processor, program, data)
            return "yes"
        if self.live is None:
            raise InvalidCommand()
        words = lines[0].split(" ")
        deed = deed_of(self.live.bench.frame, words, lines[1:])
        if deed is not None:
            return numbers_line(self.live.do_deed(deed))
        return shown_of(self.live, words, lines[1:])


def shown_of(live, words, lines):
    """What is shown of a command that is no deed."""
    if len(words) > 2 and words[0] == "if":
        number, deed = number_of(words[1]), deed_of(live.bench.frame, words[2:], lines)
        if deed is None:
            raise InvalidCommand()
        many, verdict = live.verdict_if(number, deed)
        return f"{many}: {verdict_line(verdict)}"
    if lines:
        raise InvalidCommand()
    if len(words) == 2 and words[0] == "then":
        return verdict_line(live.verdict_then(number_of(words[1])))
    if len(words) != 1:
        raise InvalidCommand()
    if words[0] == "undo":
        return "yes" if live.undo_deed() else "no"
    if words[0] == "redo":
        return "yes" if live.redo_deed() else "no"
    return asked_of(live.bench, words[0])


def asked_of(bench, word):
    """What a bench tells of what is asked by one word."""
    if word == "frame":
        return frame_text(bench.frame)
    if word == "processor":
        return processor_text(bench.frame, bench.processor)
    if word == "program":
        return program_text(bench.frame, bench.program)
    if word == "events":
        return events_lines(bench.frame)
    if word == "data":
        return numbers_lines(bench.data)
    if word == "views":
        return numbers_lines(bench.views())
    if word == "leaks":
        return numbers_lines(bench.leaks())
    if word == "promises":
        return numbers_lines(bench.promises())
    if word == "greatest":
        lot = bench.greatest()
        return "none" if lot is None else numbers_line(lot)
    if word == "verdict":
        return verdict_line(bench.verdict())
    raise InvalidCommand()


def events_lines(frame):
    """A line for each event: its number, its word and its numbers."""
    return "\n".join([
        f"{number}: {numbers_line(event)}" for number, event in enumerate(frame_events(frame))])
