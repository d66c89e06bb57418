"""Values in rich frames: which atoms a processor reads, told by its states alone."""

from leastpromise.atoms import ATOMS_MANY, event_atoms
from leastpromise.errors import Refused
from leastpromise.events import event_numbers, events_of, need_processor, read_one
from leastpromise.kinds import is_tuple_of, wrong_in_lot
from leastpromise.processors import lasting_kinds
from leastpromise.programs import fork_gone, need_frame
from leastpromise.showing import shows_leak


class StepTable:
    """What all steps of a rich frame do from all states of a processor."""

    def __init__(self, frame, processor):
        need_rich(frame)
        need_processor(frame, processor)
        numbers = event_numbers(frame)
        self.steps = all_steps(frame)
        self.readings = [
            [read_one(numbers, processor, state, step) for step in self.steps] for state in range(len(processor[0]))]
        self.came = came_to(self.readings)
        self.changes = one_value_changes(frame[0], self.steps)


def read_atoms(frame, processor):
    """The atoms that are read: at some state that comes two steps part that are unlike there alone."""
    return tuple(sorted(partings(StepTable(frame, processor))))


def states_paper(frame, processor):
    """(the atoms that are read, the parts of like states that come, what tells each of the atoms)."""
    table = StepTable(frame, processor)
    found, parts = partings(table), {}
    for state, kind in enumerate(like_kinds(table.readings)):
        if state in table.came:
            parts.setdefault(kind, []).append(state)
    lot = tuple(sorted(found))
    told = tuple([telling(frame, table, found[atom]) for atom in lot])
    return lot, tuple(sorted([tuple(part) for part in parts.values()])), told


def states_hold(frame, processor, value):
    """Whether any value is a lot of atoms, lots of states by which no others are read, and what tells each atom."""
    table = StepTable(frame, processor)
    if not is_tuple_of(value, 3):
        return False
    lot, parts, tellings = value
    if not is_lot_read(frame, lot) or not are_parts(len(table.readings), parts) or not is_tuple_of(tellings, len(lot)):
        return False
    if not all([shows_leak(frame, processor, (atom,), told) for atom, told in zip(lot, tellings)]):
        return False
    return is_right_by(table, lot, parts)


def need_rich(frame):
    need_frame(frame)
    if frame[2] or frame[1] <= frame[0]:
        raise Refused("frame")


def all_steps(frame):
    """All steps of a frame without cells, whether some datum has them or not."""
    events = events_of(frame)
    wrong = [event for event in events if event[0] == "wrong op"]
    ways, longest = [()], [()]
    for _ in range(frame[4]):
        longest = [way + (event,) for way in longest for event in wrong]
        ways.extend(longest)
    steps = [(event, ()) for event in events if event[0] in ("op", "fence")]
    return steps + [(("fork", side), way) for side in (0, 1) for way in ways]


def one_value_changes(size, steps):
    """(atom, a step's number, another's, which of its events, which value) for all two unlike in just one value."""
    numbers = {step: number for number, step in enumerate(steps)}
    told = []
    for number, (event, wrong) in enumerate(steps):
        for place, read in enumerate((event,) + wrong):
            for part, (atom, own) in enumerate(event_atoms(read)):
                for value in range(own + 1, size):
                    changed = with_part(event, wrong, place, part, value)
                    told.append((atom, number, numbers[changed], place, part))
    return told


def with_part(event, wrong, place, part, value):
    """The step with another value in one of its events."""
    reads = [list(read) for read in (event,) + wrong]
    reads[place][part - 2] = value
    changed = tuple([tuple(read) for read in reads])
    return changed[0], changed[1:]


def came_to(readings):
    """For each state that comes how: (the state ahead, the step's number), None for state 0."""
    came, waiting = {0: None}, [0]
    while waiting:
        state = waiting.pop()
        for number, (_, later) in enumerate(readings[state]):
            if later not in came:
                came[later] = (state, number)
                waiting.append(later)
    return came


def like_kinds(readings):
    """For each state a number, alike for like states."""
    return lasting_kinds([[beats for beats, _ in reading] for reading in readings], readings)


def partings(table):
    """For each atom that is read (a state that comes, a change there by which two steps part)."""
    kinds = like_kinds(table.readings)
    found = {}
    for state in sorted(table.came):
        seen = [(beats, kinds[later]) for beats, later in table.readings[state]]
        for change in table.changes:
            if change[0] not in found and seen[change[1]] != seen[change[2]]:
                found[change[0]] = (state, change)
    return found


def telling(frame, table, found):
    """(program, one, other): two data with unlike views, unlike just where the change is."""
    state, (_, number, other, place, part) = found
    rows = [step_row(frame, table.steps[ahead], None, 0) for ahead in steps_to(table.came, state)]
    rows.append(step_row(frame, table.steps[number], place, part))
    (beats, later), (more, last) = table.readings[state][number], table.readings[state][other]
    if beats == more:
        behind = parting_steps(table.readings, later, last)
        rows.extend([step_row(frame, table.steps[step], None, 0) for step in behind])
    data = []
    for step in (table.steps[number], table.steps[other]):
        data.append(datum_with(frame, ((step[0],) + step[1])[place][part - 2]))
    return tuple(rows), data[0], data[1]


def steps_to(came, state):
    """The numbers of steps that lead from state 0 to the state."""
    numbers = []
    while came[state] is not None:
        state, number = came[state]
        numbers.append(number)
    return numbers[::-1]


def parting_steps(readings, one, other):
    """The numbers of steps at the last of which the beats from two states, that aren't like, are unlike."""
    waiting, at = [((one, other), ())], 0
    known = {(one, other): True}
    while at < len(waiting):
        pair, numbers = waiting[at]
        at += 1
        for number, ((beats, later), (more, last)) in enumerate(zip(readings[pair[0]], readings[pair[1]])):
            if beats != more:
                return numbers + (number,)
            if (later, last) not in known:
                known[(later, last)] = True
                waiting.append(((later, last), numbers + (number,)))
    return ()


def step_row(frame, step, place, part):
    """A row that has the step where registers have their numbers; at this part of this event the next one is read."""
    event, wrong = step
    rows = tuple([op_row(frame, read, part if place == at + 1 else None) for at, read in enumerate(wrong)])
    if event[0] == "fork":
        return fork_gone(event[1], event[1], rows)
    return op_row(frame, event, part if place == 0 else None)


def op_row(frame, event, part):
    """The operation that has this event, and leaves registers as they are; of a fence the fence."""
    if event[0] == "fence":
        return event
    size, spots = frame[0], list(event[2:])
    # What an unlike value answers may be unlike, so it is put where nothing is read any more.
    to = frame[3][event[1]][spots[0] * size + spots[1]] if part is None else size
    if part is not None:
        spots[part] = size
    return "op", event[1], to, spots[0], spots[1]


def datum_with(frame, value):
    """The datum whose registers have their numbers, as long as these are values, and the next one this value."""
    size, many = frame[:2]
    return tuple(range(size)) + (value,) + (0,) * (many - size - 1)


def is_lot_read(frame, value):
    """Whether any value is a tuple of atoms that events without cells have."""
    atoms = (0, 1, 6, 7) if frame[4] else (0, 1)
    return isinstance(value, tuple) and wrong_in_lot(value, ATOMS_MANY) is None and all(
        [atom in atoms for atom in value])


def are_parts(many, value):
    """Whether any value is a tuple of lots of states, none in two of them, and state 0 in one."""
    if not isinstance(value, tuple) or not all(
            [isinstance(part, tuple) and wrong_in_lot(part, many) is None for part in value]):
        return False
    states = [state for part in value for state in part]
    return len(states) == len(set(states)) and 0 in states


def is_right_by(table, lot, parts):
    """Whether steps, and steps unlike at one atom outside the lot, do alike from states of one part."""
    owners = {state: number for number, part in enumerate(parts) for state in part}
    for part in parts:
        seen = [[(beats, owners.get(later)) for beats, later in table.readings[state]] for state in part]
        if any([own != seen[0] for own in seen]):
            return False
        if any([owner is None for own in seen for _, owner in own]):
            return False
        for atom, number, other, _, _ in table.changes if seen else []:
            if atom not in lot and seen[0][number] != seen[0][other]:
                return False
    return True
