"""The court of promises: which lots of atoms a processor keeps to all programs."""

from leastpromise.atoms import need_lot
from leastpromise.crossings import mask_of
from leastpromise.events import need_processor
from leastpromise.grounds import row_ground
from leastpromise.kinds import is_tuple_of
from leastpromise.pairs import Pairs, is_closed_lot, spread, told_pairs, way_back
from leastpromise.programs import (
    fork_gone, need_datum, need_frame, need_program, plain_rows, silent_rows, unrolled_rows)
from leastpromise.runs import passed_rows
from leastpromise.showing import shows_broken


def flat_rows(frame):
    """All operations, loads, stores, fences, and forks with an empty side, the other one a wrong way; ascending."""
    need_frame(frame)
    ways, longest = [()], [()]
    for _ in range(frame[4]):
        longest = [way + (row,) for way in longest for row in silent_rows(frame) if row[0] != "store"]
        ways.extend(longest)
    forks = [fork_gone(on, 0, way) for on in range(frame[1]) for way in ways]
    forks.extend([fork_gone(on, 1, way) for on in range(frame[1]) for way in ways if way])
    return tuple(sorted(list(plain_rows(frame)) + forks))


def flat_program(frame, program, datum):
    """The flat rows, one a step, that the datum passes with the steps that it has in the program."""
    need_program(frame, program)
    need_datum(frame, datum)
    passed = passed_rows(frame, unrolled_rows(program), (), datum)[0]
    return tuple([flat_row(row, step) for _, row, step in passed])


def court_paper(frame, processor, lot):
    """("kept", the least closed lot of pairs), or some ("broken", program, one, other) with the fewest steps."""
    pairs = court_pairs(frame, processor, lot)
    came, last = spread(pairs)
    if last is None:
        return "kept", told_pairs(pairs, came)
    return ("broken",) + broken_by(pairs, came, last)


def court_holds(frame, processor, lot, value):
    """Whether any value is ("kept", any closed lot), or ("broken", any such program, two data)."""
    pairs = court_pairs(frame, processor, lot)
    if is_tuple_of(value, 2) and value[0] == "kept":
        return is_closed_lot(pairs, value[1])
    if is_tuple_of(value, 4) and value[0] == "broken":
        return shows_broken(frame, processor, need_lot(lot), value[1:])
    return False


def is_kept(frame, processor, lot):
    """Whether in all programs data of one trace by the lot have one view."""
    return spread(court_pairs(frame, processor, lot))[1] is None


def fewest_steps(frame, processor, lot):
    """How many steps the first unlike beats come at, at the least; None if the promise is kept."""
    pairs = court_pairs(frame, processor, lot)
    came, last = spread(pairs)
    return None if last is None else len(broken_by(pairs, came, last)[0])


def flat_row(row, step):
    """The flat row of a row and the step that a datum has there."""
    if row[0] != "fork":
        return row
    event, wrong = step
    side = event[1]
    return fork_gone(row[1], side, unrolled_rows(row[3 - side])[:len(wrong)])


def court_pairs(frame, processor, lot):
    """The pairs of standings that a processor and a lot of atoms tell."""
    need_processor(frame, processor)
    return Pairs(frame, processor, row_ground(frame), mask_of(need_lot(lot)))


def broken_by(pairs, came, last):
    """(program, one, other) that lead to the unlike beats of the last pair."""
    begin, moves = way_back(pairs, came, last)
    one, other = pairs.told(begin)
    return tuple([row_of(pairs, move, wrong) for move, wrong, _ in moves]), one[0], other[0]


def row_of(pairs, move, wrong):
    """The flat row of a move."""
    if move[1] not in pairs.forks:
        return move[5]
    return fork_gone(move[5], pairs.forks.index(move[1]), tuple([step[5] for step in wrong]))
