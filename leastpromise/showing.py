"""Programs and two data that show something of a processor: unlike views, where steps are alike at some atoms."""

from leastpromise.atoms import unlike_in
from leastpromise.events import read_steps
from leastpromise.kinds import is_tuple_of
from leastpromise.programs import is_datum, is_program
from leastpromise.runs import steps_of


def shows_leak(frame, processor, lot, value):
    """Whether any value is (program, one, other) of unlike views, like sides, and just the lot's atoms unlike."""
    if not is_program_on_two(frame, value):
        return False
    steps, others = steps_on_two(frame, value)
    return unlike_in(steps, others) == (lot, False) and are_told_apart(frame, processor, steps, others)


def shows_broken(frame, processor, lot, value):
    """Whether any value is (program, one, other) of one trace by the lot, and unlike views."""
    if not is_program_on_two(frame, value):
        return False
    steps, others = steps_on_two(frame, value)
    unlike, parted = unlike_in(steps, others)
    if parted or any([atom in lot for atom in unlike]):
        return False
    return are_told_apart(frame, processor, steps, others)


def is_program_on_two(frame, value):
    """Whether any value is (program, one, other), the latter data."""
    return is_tuple_of(value, 3) and is_program(frame, value[0]) and is_datum(frame, value[1]) and is_datum(
        frame, value[2])


def steps_on_two(frame, value):
    program, one, other = value
    return steps_of(frame, program, one), steps_of(frame, program, other)


def are_told_apart(frame, processor, steps, others):
    """Whether two runs have unlike views."""
    return read_steps(frame, processor, 0, steps)[0] != read_steps(frame, processor, 0, others)[0]
