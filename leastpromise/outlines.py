"""Tables that only compare their two values, and processors of two values made finer to three."""

from leastpromise.errors import InvalidFrame, InvalidIndex, InvalidTable, Refused
from leastpromise.events import event_numbers, events_of, need_processor, need_readings
from leastpromise.kinds import is_below, is_row_of_values, is_sequence, is_size, is_table
from leastpromise.programs import MOST_DEEP, MOST_REGISTERS, MOST_TABLES, need_frame
from leastpromise.values import read_atoms

OUTCOMES_MANY = 3


def compared(size, registers, choices, deep, outline):
    """(frame, processor): tables that choose by outcome, each event read as the outline reads its outcome."""
    if not is_size(size):
        raise InvalidFrame(0)
    if not is_below(registers, MOST_REGISTERS + 1) or registers == 0:
        raise InvalidFrame(1)
    need_outline(choices, deep, outline)
    return compared_frame(size, registers, choices, deep, outline)


def compared_atoms(choices, deep, outline):
    """The least promise of the processors that the outline tells in rich frames."""
    need_outline(choices, deep, outline)
    # Two values have all three outcomes, and three registers are more than they.
    frame, processor = compared_frame(2, 3, choices, deep, outline)
    return read_atoms(frame, processor)


def coarse_table(table, up):
    """The table of two values that one of three fits, or None."""
    if not is_table(3, table):
        raise InvalidTable(-1)
    need_up(up)
    return coarser(table, up)


def finer(frame, processor, tables, up):
    """(frame, processor) of three values, with these tables; each event is read as its coarser one."""
    need_frame(frame)
    if frame[0] != 2 or frame[2] != 0:
        raise Refused("frame")
    need_processor(frame, processor)
    if not is_sequence(tables) or len(tables) != len(frame[3]):
        raise InvalidTable(-1)
    for at, table in enumerate(tables):
        if not is_table(3, table):
            raise InvalidTable(at)
    need_up(up)
    for at, table in enumerate(tables):
        if coarser(table, up) != frame[3][at]:
            raise Refused(at)
    fine, numbers = (3, frame[1], 0, tuple(tables), frame[4]), event_numbers(frame)
    guesses, steps = processor
    coarse = [numbers[coarse_event(event)] for event in events_of(fine)]
    return fine, (guesses, tuple([tuple([row[number] for number in coarse]) for row in steps]))


def need_outline(choices, deep, outline):
    """Choices, a depth, and an outline of as many outcomes."""
    if not isinstance(choices, tuple) or len(choices) > MOST_TABLES or not all(
            [is_row_of_values(choice, OUTCOMES_MANY, 2) for choice in choices]):
        raise InvalidFrame(3)
    if not is_below(deep, MOST_DEEP + 1):
        raise InvalidFrame(4)
    need_readings(len(outcomes_of(choices, deep)), outline)


def compared_frame(size, registers, choices, deep, outline):
    values = range(size)
    tables = tuple([
        tuple([(one, other)[choice[outcome(one, other)]] for one in values for other in values]) for choice in choices])
    frame = (size, registers, 0, tables, deep)
    numbers = {event: number for number, event in enumerate(outcomes_of(choices, deep))}
    guesses, rows = outline
    read = [numbers[outcome_of(event)] for event in events_of(frame)]
    return frame, (guesses, tuple([tuple([row[number] for number in read]) for row in rows]))


def outcomes_of(choices, deep):
    """What an outline tells of, in order: events with their outcome for their values."""
    ops = [(table, told) for table in range(len(choices)) for told in range(OUTCOMES_MANY)]
    told = [("op",) + op for op in ops] + [("fence",), ("fork", 0), ("fork", 1)]
    return told + [("wrong op",) + op for op in ops if deep]


def outcome(one, other):
    """0, 1, 2: the first is less than, like, greater than the other one."""
    if one == other:
        return 1
    return 0 if one < other else 2


def outcome_of(event):
    return event[:2] + (outcome(event[2], event[3]),) if event[0] in ("op", "wrong op") else event


def need_up(up):
    if not is_below(up, 3) or up == 0:
        raise InvalidIndex(-1)


def coarser(table, up):
    """The table of two values that a table of three fits, one standing for up, or None."""
    fine = (0, up)
    told = tuple([min(1, table[one * 3 + other]) for one in fine for other in fine])
    for one in range(3):
        for other in range(3):
            if min(1, table[one * 3 + other]) != told[min(1, one) * 2 + min(1, other)]:
                return None
    if any([table[fine[one] * 3 + fine[other]] != fine[told[one * 2 + other]] for one in (0, 1) for other in (0, 1)]):
        return None
    return told


def coarse_event(event):
    """The event of two values that one of three is read as."""
    return event[:2] + (min(1, event[2]), min(1, event[3])) if event[0] in ("op", "wrong op") else event
