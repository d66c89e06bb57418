"""The bench: a processor, a program and data that are worked at, and what is told of them all along."""

from leastpromise.atoms import ATOMS_MANY
from leastpromise.errors import InvalidDatum, InvalidDeed, PromiseError, Refused
from leastpromise.events import GUESSES_MANY, MOST_STATES, events_many, need_processor, read_steps
from leastpromise.fences import choices_of, with_fences
from leastpromise.kinds import is_below, is_number, is_sequence, wrong_in_lot
from leastpromise.leaks import Court
from leastpromise.programs import is_row, need_data, need_program, unrolled_rows
from leastpromise.runs import steps_of, with_value
from leastpromise.traces import promise_of

DEEDS_ON_PROCESSORS = ("beats", "next", "guess", "state")


class Bench:
    """What is worked at: a frame, a processor, a program and data; deeds change the latter three."""

    def __init__(self, frame, processor, program, data):
        need_processor(frame, processor)
        need_program(frame, program)
        self.frame = frame
        self.processor = processor
        self.program = program
        self.data = need_data(frame, data)
        self.deeds = ()
        self.anew = (1, len(self.data))
        self._court = Court(frame, processor)
        self._lists = None
        self._runs = runs_on(frame, program, self.data)

    def do_deed(self, deed):
        """Does a deed: sets what it changes, and what of all that is told is made new."""
        told = right_deed(self, deed)
        if told is None:
            raise InvalidDeed(-1)
        if told[0] in DEEDS_ON_PROCESSORS:
            self.processor = changed_processor(self.frame, self.processor, told)
            self._court = Court(self.frame, self.processor)
            self._lists = None
            self.anew = (1, 0)
        elif told[0] == "data":
            new = [datum for datum in told[1] if datum not in self._runs]
            self._runs = {datum: self._runs[datum] for datum in told[1] if datum in self._runs}
            self._runs.update(runs_on(self.frame, self.program, new))
            self.data = told[1]
            self.anew = (0, len(new))
        else:
            self.program = changed_program(self.frame, self.program, self.data, told)
            self._runs = runs_on(self.frame, self.program, self.data)
            self.anew = (0, len(self.data))
        self.deeds += (told,)

    def leaks(self):
        """All least leaks of the processor."""
        return self.lists()[0]

    def promises(self):
        """All least promises of the processor."""
        return self.lists()[1]

    def lists(self):
        if self._lists is None:
            self._lists = self._court.lists()
        return self._lists

    def views(self):
        """The view of each datum, in order."""
        return tuple([read_steps(self.frame, self.processor, 0, self._runs[datum])[0] for datum in self.data])

    def greatest(self):
        """The greatest lot by which all the data have one trace, or None."""
        return promise_of([self._runs[datum] for datum in self.data])

    def verdict(self):
        """("quiet", lot), ("loud", one, other), or ("lucky",)."""
        lot = self.greatest()
        if lot is not None and self._court.keeps(lot):
            return "quiet", lot
        views = self.views()
        for at, view in enumerate(views):
            for later in range(at + 1, len(views)):
                if views[later] != view:
                    return "loud", self.data[at], self.data[later]
        return ("lucky",)

    def copied(self):
        """A bench over the same things, with the same deeds done and the same lists known."""
        other = Bench(self.frame, self.processor, self.program, self.data)
        other.follow(self.deeds, self.anew, self._court, self._lists)
        return other

    def follow(self, deeds, anew, court, lists):
        self.deeds = deeds
        self.anew = anew
        self._court = court
        self._lists = lists


def bench_behind(frame, processor, program, data, deeds):
    """The bench behind these deeds."""
    bench = Bench(frame, processor, program, data)
    if not is_sequence(deeds):
        raise InvalidDeed(-1)
    for at, deed in enumerate(deeds):
        if not is_done(bench, deed):
            raise InvalidDeed(at)
    return bench


def is_done(bench, deed):
    """Whether any value is a deed that can be done at the bench; then it is."""
    try:
        bench.do_deed(deed)
    except PromiseError:
        return False
    return True


def runs_on(frame, program, data):
    rows = unrolled_rows(program)
    return {datum: steps_of(frame, rows, datum) for datum in data}


def right_deed(bench, deed):
    """The deed in tuples, with all that is right for what stands; None if it is none."""
    if not is_sequence(deed) or len(deed) == 0 or not isinstance(deed[0], str):
        return None
    told = tuple(deed)
    if told[0] in DEEDS_ON_PROCESSORS:
        return told if is_processor_deed(bench, told) else None
    if told[0] in ("put", "strike"):
        return told if is_program_deed(bench, told) else None
    if len(told) != 2:
        return None
    if told[0] == "fence" and wrong_in_lot(told[1], ATOMS_MANY) is None:
        return "fence", tuple(told[1])
    return ("data", tuple(told[1])) if told[0] == "data" and are_data(bench.frame, told[1]) else None


def is_processor_deed(bench, deed):
    states, events = len(bench.processor[0]), events_many(bench.frame)
    if deed[0] == "state":
        return len(deed) == 1
    if deed[0] == "guess":
        return len(deed) == 3 and is_below(deed[1], states) and is_below(deed[2], GUESSES_MANY)
    if len(deed) != 4 or not is_below(deed[1], states) or not is_below(deed[2], events):
        return False
    if deed[0] == "beats":
        return is_number(deed[3]) and deed[3] > 0
    return is_below(deed[3], states)


def is_program_deed(bench, deed):
    rows = len(bench.program)
    if deed[0] == "strike":
        return len(deed) == 2 and is_below(deed[1], rows)
    return len(deed) == 3 and is_below(deed[1], rows + 1) and is_row(bench.frame, deed[2])


def are_data(frame, value):
    """Whether any value is a sequence of unlike data."""
    try:
        need_data(frame, value)
    except InvalidDatum:
        return False
    return True


def changed_processor(frame, processor, deed):
    """The processor behind a right deed on it."""
    guesses, steps = processor
    if deed[0] == "state":
        if len(guesses) == MOST_STATES:
            raise Refused("states")
        return guesses + (0,), steps + (((1, len(guesses)),) * events_many(frame),)
    state = deed[1]
    if deed[0] == "guess":
        return with_value(guesses, state, deed[2]), steps
    beats, later = steps[state][deed[2]]
    reading = (deed[3], later) if deed[0] == "beats" else (beats, deed[3])
    return guesses, with_value(steps, state, with_value(steps[state], deed[2], reading))


def changed_program(frame, program, data, deed):
    """The program behind a right deed on it."""
    if deed[0] == "put":
        return program[:deed[1]] + (deed[2],) + program[deed[1]:]
    if deed[0] == "strike":
        return program[:deed[1]] + program[deed[1] + 1:]
    rows = unrolled_rows(program)
    choices = choices_of(frame, rows, deed[1], data)
    if choices is None:
        raise Refused("right")
    return with_fences(rows, choices)
