"""Promises that are kept whatever the number of registers is: pairs of what cells have and of states."""

from leastpromise.atoms import need_lot, unlike_in
from leastpromise.crossings import mask_of
from leastpromise.events import event_numbers, is_step, need_processor, read_steps
from leastpromise.grounds import Ground
from leastpromise.kinds import is_tuple_of
from leastpromise.pairs import Pairs, is_closed_lot, spread, told_pairs, way_back
from leastpromise.runs import with_value


def wide_paper(frame, processor, lot):
    """("kept", the least wide lot), or some ("broken", double steps)."""
    pairs = wide_pairs(frame, processor, lot)
    came, last = spread(pairs)
    if last is None:
        return "kept", told_pairs(pairs, came)
    return "broken", double_steps(pairs, way_back(pairs, came, last)[1])


def wide_holds(frame, processor, lot, value):
    """Whether any value is ("kept", any wide lot), or ("broken", any such double steps)."""
    pairs = wide_pairs(frame, processor, lot)
    if not is_tuple_of(value, 2) or not isinstance(value[1], tuple):
        return False
    if value[0] == "kept":
        return is_closed_lot(pairs, value[1])
    return value[0] == "broken" and are_double_steps(frame, value[1]) and are_told_apart(
        frame, processor, need_lot(lot), value[1])


def wide_pairs(frame, processor, lot):
    """The pairs of places that a processor and a lot of atoms tell."""
    need_processor(frame, processor)
    return Pairs(frame, processor, wide_ground(frame), mask_of(need_lot(lot)))


def wide_ground(frame):
    """The ground of what cells may have, and of events of one kind and table, whatever registers have."""
    numbers, fitting = event_numbers(frame), all_cells(frame)
    places = {cells: place for place, cells in enumerate(fitting)}
    groups = {}
    for event in numbers:
        kind = event[:2] if event[0] in ("op", "wrong op", "fork") else event[:1]
        groups.setdefault(kind, []).append(event)
    told = {"plain": [], "wrong": [], "fork": []}
    for kind, events in groups.items():
        options = [
            [(numbers[event], places[cells_behind(cells, event)]) for event in events if does_fit(cells, event)]
            for cells in fitting]
        told[sort_of(kind[0])].append((None, options))
    return Ground(frame, fitting, True, told["plain"], told["wrong"], told["fork"])


def sort_of(word):
    """Which groups the events of a word stand in."""
    if word == "fork":
        return "fork"
    return "wrong" if word in ("wrong op", "wrong load") else "plain"


def all_cells(frame):
    """All that the cells may have, ascending; without cells just nothing."""
    told = [()]
    for _ in range(frame[2]):
        told = [cells + (value,) for cells in told for value in range(frame[0])]
    return told


def does_fit(cells, event):
    """Whether the event may be, where the cells have these values."""
    return event[0] not in ("load", "wrong load") or cells[event[1]] == event[2]


def cells_behind(cells, event):
    return with_value(cells, event[1], event[2]) if event[0] == "store" else cells


def double_steps(pairs, moves):
    """The double steps of these moves."""
    events, told, turned = pairs.ground.events, [], False
    for move, wrong, turns in moves:
        steps = tuple([
            (events[move[way]], tuple([events[read[way]] for read in wrong])) for way in (1, 2)])
        told.append(steps[::-1] if turned else steps)
        # Pairs have the lesser place first: from here on the first one may be told second.
        turned = turned != turns
    return tuple(told)


def are_double_steps(frame, value):
    """Whether each thing in a tuple is two steps of one kind."""
    numbers = event_numbers(frame)
    for pair in value:
        if not is_tuple_of(pair, 2) or not all([is_step(frame, numbers, step) for step in pair]):
            return False
        if kinds_of(pair[0]) != kinds_of(pair[1]):
            return False
    return True


def kinds_of(step):
    """What two steps of a double step have alike: words, tables, the side."""
    event, wrong = step
    return [read[:2] if read[0] in ("op", "wrong op", "fork") else read[:1] for read in (event,) + wrong]


def are_told_apart(frame, processor, lot, pairs):
    """Whether double steps fit some cells, are unlike at no atom of the lot, with unlike beats at the last alone."""
    one, other = [tuple([pair[way] for pair in pairs]) for way in (0, 1)]
    if not fits_some(frame, one) or not fits_some(frame, other):
        return False
    if any([atom in lot for atom in unlike_in(one, other)[0]]):
        return False
    view, further = [read_steps(frame, processor, 0, steps)[0] for steps in (one, other)]
    return view != further and view[:-1] == further[:-1]


def fits_some(frame, steps):
    """Whether there are cells that these steps fit, one behind the other."""
    return any([do_fit(cells, steps) for cells in all_cells(frame)])


def do_fit(cells, steps):
    for event, wrong in steps:
        if not all([does_fit(cells, read) for read in wrong + (event,)]):
            return False
        cells = cells_behind(cells, event)
    return True
