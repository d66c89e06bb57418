"""Processors that count events, and take another time for one of them: where two runs are first unlike."""

from leastpromise.atoms import event_atoms
from leastpromise.events import events_of


def first_unlike(steps, others, lot):
    """Where the traces of two runs of a program are first unlike, by the lot; None if they are alike.

    Told is (the step's number, how many wrong events of it come ahead, the guess that it takes to see it, mark).
    """
    for at, (step, other) in enumerate(zip(steps, others)):
        mark = event_mark(step[0], other[0], lot)
        if mark is not None:
            return at, 0, 0, mark
        for ahead, (read, further) in enumerate(zip(step[1], other[1])):
            mark = event_mark(read, further, lot)
            if mark is not None:
                return at, ahead, 3, mark
    return None


def event_mark(event, other, lot):
    """(word, at which of its parts, what the first one has there) of two unlike events of one row, or None."""
    if event[0] == "fork" and event != other:
        return "fork", 1, event[1]
    for part, (atom, value) in enumerate(event_atoms(event)):
        if atom in lot and value != event_atoms(other)[part][1]:
            return event[0], part - 2, value
    return None


def counting_processor(frame, found):
    """The processor that counts events up to what was found, and takes two beats for the marked ones there."""
    at, ahead, guess, (word, part, value) = found
    last = at + ahead + 1
    events, steps = events_of(frame), []
    for state in range(last):
        beats = [2 if state == last - 1 and event[0] == word and event[part] == value else 1 for event in events]
        steps.append(tuple([(more, state + 1) for more in beats]))
    steps.append(tuple([(1, last) for _ in events]))
    return tuple([guess if state == at else 0 for state in range(last + 1)]), tuple(steps)
