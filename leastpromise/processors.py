"""Processors: states that are alike, least processors, two of them at once, and one that tells two data apart."""

from leastpromise.atoms import all_atoms
from leastpromise.counting import counting_processor, first_unlike
from leastpromise.errors import InvalidIndex, Refused
from leastpromise.events import MOST_STATES, need_processor
from leastpromise.kinds import is_below
from leastpromise.programs import need_program, need_two_data, unrolled_rows
from leastpromise.runs import steps_of


def alike_parts(frame, processor):
    """The parts of states that have like guesses and beats along each row of events."""
    need_processor(frame, processor)
    parts = {}
    for state, kind in enumerate(alike_kinds(processor)):
        parts.setdefault(kind, []).append(state)
    return tuple(sorted([tuple(part) for part in parts.values()]))


def parting_row(frame, processor, one, other):
    """The first shortest row of events at which two states part; None if they are alike."""
    need_processor(frame, processor)
    for state in (one, other):
        if not is_below(state, len(processor[0])):
            raise InvalidIndex(-1)
    guesses, steps = processor
    if guesses[one] != guesses[other]:
        return ()
    rows, waiting, at = {(one, other): ()}, [(one, other)], 0
    while at < len(waiting):
        pair = waiting[at]
        at += 1
        for number, (read, further) in enumerate(zip(steps[pair[0]], steps[pair[1]])):
            row, later = rows[pair] + (number,), (read[1], further[1])
            if read[0] != further[0] or guesses[later[0]] != guesses[later[1]]:
                return row
            if later not in rows:
                rows[later] = row
                waiting.append(later)
    return None


def least_processor(frame, processor):
    """The parts of alike states that are come to from state 0, numbered as they come."""
    need_processor(frame, processor)
    guesses, steps = processor
    kinds = alike_kinds(processor)
    firsts = {}
    for state, kind in enumerate(kinds):
        firsts.setdefault(kind, state)
    readings = {kind: [(beats, kinds[later]) for beats, later in steps[firsts[kind]]] for kind in firsts}
    return numbered_processor(kinds[0], {kind: guesses[firsts[kind]] for kind in firsts}, readings)


def put_beside(frame, one, other):
    """The processor of pairs of states, with the one's guess and the sum of both's beats."""
    need_processor(frame, one)
    need_processor(frame, other)
    return paired_processor(one, other, 1)


def paired_processor(one, other, times):
    """The processor of pairs of states, with the one's guess, and the one's beats so many times beside the other's."""
    guesses, readings, waiting = {}, {}, [(0, 0)]
    while waiting:
        pair = waiting.pop()
        if pair not in readings:
            guesses[pair] = one[0][pair[0]]
            readings[pair] = [
                (beats * times + more, (later, last))
                for (beats, later), (more, last) in zip(one[1][pair[0]], other[1][pair[1]])]
            if len(readings) > MOST_STATES:
                raise Refused("states")
            waiting.extend([later for _, later in readings[pair]])
    return numbered_processor((0, 0), guesses, readings)


def telling_processor(frame, program, one, other):
    """Some processor on which the program's views on these two data are unlike."""
    need_program(frame, program)
    need_two_data(frame, one, other)
    rows = unrolled_rows(program)
    found = first_unlike(steps_of(frame, rows, one), steps_of(frame, rows, other), all_atoms())
    if found is None:
        raise Refused("alike")
    return counting_processor(frame, found)


def alike_kinds(processor):
    """For each state a number, alike for alike states."""
    guesses, steps = processor
    return lasting_kinds([(guess, [beats for beats, _ in row]) for guess, row in zip(guesses, steps)], steps)


def lasting_kinds(things, readings):
    """For each state a number, alike for those with like things, of which all that is read leads to such ones again."""
    kinds, many = numbered(things), 0
    while many < len(set(kinds)):
        many = len(set(kinds))
        kinds = numbered([(kind, [kinds[later] for _, later in reading]) for kind, reading in zip(kinds, readings)])
    return kinds


def numbered(things):
    """For each of the things a number, alike for alike ones."""
    return [things.index(thing) for thing in things]


def numbered_processor(begin, guesses, readings):
    """A processor of things: each one's guess, and (beats, thing) for its events; numbered as they are come to."""
    numbers, waiting, at = {begin: 0}, [begin], 0
    while at < len(waiting):
        thing = waiting[at]
        at += 1
        for _, later in readings[thing]:
            if later not in numbers:
                numbers[later] = len(waiting)
                waiting.append(later)
    steps = [tuple([(beats, numbers[later]) for beats, later in readings[thing]]) for thing in waiting]
    return tuple([guesses[thing] for thing in waiting]), tuple(steps)
