"""How much processors that keep a promise can show of a program's data, and how."""

from leastpromise.atoms import need_lot, steps_trace
from leastpromise.errors import InvalidParts, Refused
from leastpromise.events import events_of, need_processor
from leastpromise.kinds import is_sequence
from leastpromise.programs import is_datum, need_data, need_program, unrolled_rows
from leastpromise.runs import steps_of
from leastpromise.trees import Choices, event_class, longest_run, need_few_states, tree_processor


def shown_processor(frame, program, lot, parts):
    """Some processor that keeps the lot, on which the sums of views on these data are alike just within parts."""
    need_program(frame, program)
    atoms = need_lot(lot)
    need_parts(frame, parts)
    rows, owners, runs, ways = unrolled_rows(program), {}, [], []
    for number, part in enumerate(parts):
        for datum in part:
            steps = steps_of(frame, rows, datum)
            if owners.setdefault(steps_trace(steps, atoms), number) != number:
                raise Refused("trace")
            runs.append((number, steps))
    told = [steps for _, steps in runs]
    need_few_states(told)
    for number, steps in runs:
        reads = [(3, [event_class(read, atoms) for read in wrong + (event,)]) for event, wrong in steps]
        ways.append((reads, longest_run(told) + number))
    return tree_processor(frame, atoms, ways)


def most_views(frame, program, data, lot):
    """The most unlike views of the data on any processor that keeps the lot."""
    runs, atoms = runs_on(frame, program, data, lot)
    return len(set([steps_trace(steps, atoms) for steps in runs]))


def looks_alone(frame, processor, lot):
    """Whether each state reads alike all events of one kind with like values at the lot's atoms."""
    need_processor(frame, processor)
    atoms = need_lot(lot)
    seen = [event_class(event, atoms) for event in events_of(frame)]
    for row in processor[1]:
        reads = {}
        for own, read in zip(seen, row):
            if reads.setdefault(own, read) != read:
                return False
    return True


def single_views(frame, program, data, lot):
    """The most unlike views of the data on a processor that looks at the lot alone and guesses one side at most."""
    runs, atoms = runs_on(frame, program, data, lot)
    return Choices(runs, atoms).most(0, tuple(range(len(runs)))) if runs else 0


def single_processor(frame, program, data, lot):
    """Some such processor, on which as many sums are unlike."""
    runs, atoms = runs_on(frame, program, data, lot)
    need_few_states(runs)
    ways = Choices(runs, atoms).ways() if runs else []
    return tree_processor(frame, atoms, [(steps, longest_run(runs) + number) for number, steps in enumerate(ways)])


def hidden_guess():
    """Some (frame, processor, program, lot) of more views than looking at the lot alone shows by one guess."""
    frame = (2, 2, 0, ((0, 0, 0, 1),), 1)
    wrong = (("op", 0, 0, 1, 1),)
    program = (("op", 0, 0, 0, 0), ("fork", 0, wrong, wrong))
    # The first operation's value, that the lot doesn't tell, chooses the side that is read at a fork just behind it.
    # A 0 there is read where data go side 0, and a 1 takes longer; the other way round behind a 1. Data of one trace
    # that come there by unlike values have like values in all registers, that read as 0 at side 0, as 1 at side 1.
    guesses = (0, 2, 1, 0, 0)
    steps = [[], [], [], [], []]
    for event in events_of(frame):
        side = 10 * event[1] if event[0] == "fork" else 0
        is_wrong = event[0] == "wrong op"
        steps[0].append((2 + side, 1 + event[2] if event[0] == "op" else 3))
        steps[1].append((1 + event[2], 4) if is_wrong else (2 + side, 3))
        steps[2].append((2 - event[2], 4) if is_wrong else (2 + side, 3))
        steps[3].append((2 + side, 3))
        # Behind a wrong event the fork takes what is left of two beats.
        steps[4].append((1 + side, 3))
    return frame, (guesses, tuple([tuple(row) for row in steps])), program, (6,)


def need_parts(frame, parts):
    """Sequences of data, none empty, no datum twice."""
    if not is_sequence(parts):
        raise InvalidParts(-1)
    stood = {}
    for at, part in enumerate(parts):
        if not is_sequence(part) or len(part) == 0:
            raise InvalidParts(at)
        for datum in part:
            if not is_datum(frame, datum) or datum in stood:
                raise InvalidParts(at)
            stood[datum] = at


def runs_on(frame, program, data, lot):
    """(the runs of the program on the data, the lot)."""
    need_program(frame, program)
    told, atoms = need_data(frame, data), need_lot(lot)
    rows = unrolled_rows(program)
    return [steps_of(frame, rows, datum) for datum in told], atoms
