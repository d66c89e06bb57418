"""Atoms: which value of an event is meant; lots of atoms, by which traces are told."""

from leastpromise.errors import InvalidLot
from leastpromise.kinds import wrong_in_lot

ATOMS_MANY = 10
FIRST_ATOMS = {"op": 0, "load": 2, "store": 4, "wrong op": 6, "wrong load": 8}


def need_lot(lot):
    """A lot of atoms, as a tuple."""
    at = wrong_in_lot(lot, ATOMS_MANY)
    if at is not None:
        raise InvalidLot(at)
    return tuple(lot)


def all_atoms():
    return tuple(range(ATOMS_MANY))


def event_atoms(event):
    """(atom, value) for each of the atoms that the event has."""
    first = FIRST_ATOMS.get(event[0])
    if first is None:
        return ()
    return (first, event[-2]), (first + 1, event[-1])


def values_at(event, lot):
    """The event's values at the lot's atoms, in order."""
    return tuple([value for atom, value in event_atoms(event) if atom in lot])


def atoms_of_step(step):
    """For each atom the tuple of its values in the step."""
    event, wrong = step
    told = [()] * ATOMS_MANY
    for read in (event,) + wrong:
        for atom, value in event_atoms(read):
            told[atom] += (value,)
    return tuple(told)


def step_trace(step, lot):
    """What the step shows by the lot: its values, those of its wrong events, the side that a fork goes."""
    event, wrong = step
    side = event[1] if event[0] == "fork" else None
    return values_at(event, lot), tuple([values_at(read, lot) for read in wrong]), side


def steps_trace(steps, lot):
    return tuple([step_trace(step, lot) for step in steps])


def unlike_in(steps, others):
    """(the atoms at which two data's steps differ up to the first unlike sides, whether there are such)."""
    unlike = set()
    for step, other in zip(steps, others):
        if step[0][0] == "fork" and step[0] != other[0]:
            return tuple(sorted(unlike)), True
        for atom, (values, more) in enumerate(zip(atoms_of_step(step), atoms_of_step(other))):
            if values != more:
                unlike.add(atom)
    return tuple(sorted(unlike)), False
