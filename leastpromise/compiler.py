"""Silent rows: operations, loads and stores by which data of one class look alike."""

from leastpromise.atoms import need_lot, values_at
from leastpromise.errors import InvalidIndex, InvalidSource
from leastpromise.kinds import is_ascending, is_sequence, is_tuple_of, wrong_in_lot
from leastpromise.programs import (
    all_data, is_datum, is_silent_row, need_frame, need_program, silent_rows, spots_many, unrolled_rows)
from leastpromise.runs import left_of, plain_event


def open_classes(frame, places):
    """All data in classes: those that are alike at these places."""
    need_frame(frame)
    open_places = need_places(frame, places)
    classes = {}
    for datum in all_data(frame):
        classes.setdefault(seen_at(datum, open_places), []).append(datum)
    return tuple(sorted([tuple(part) for part in classes.values()]))


def silent_paper(frame, lot, classes, places, program):
    """Some ("way", rows), fewest silent rows that leave what the program leaves, or ("closed", states)."""
    atoms, begin, asked, wanted = silent_question(frame, lot, classes, places, program)
    moves = silent_moves(frame, atoms)
    came, waiting, at = {begin: None}, [begin], 0
    while at < len(waiting):
        state = waiting[at]
        at += 1
        if shown_at(state, asked) == wanted:
            return "way", rows_back(came, state)
        for row, move in moves:
            later = led_on(state, move)
            if later is not None and later not in came:
                came[later] = (state, row)
                waiting.append(later)
    return "closed", tuple(sorted(waiting))


def silent_holds(frame, lot, classes, places, program, value):
    """Whether any value is such rows, any number of them, or such states."""
    atoms, begin, asked, wanted = silent_question(frame, lot, classes, places, program)
    if not is_tuple_of(value, 2) or not isinstance(value[1], tuple):
        return False
    if value[0] == "way":
        return all([is_silent_row(frame, row) for row in value[1]]) and shown_at(
            state_behind(frame, atoms, begin, value[1]), asked) == wanted
    if value[0] == "closed":
        return are_states(frame, begin, value[1]) and begin in value[1] and is_left_by_none(
            frame, atoms, value[1]) and not any([shown_at(state, asked) == wanted for state in value[1]])
    return False


def need_places(frame, places):
    """A lot of places of data, as a tuple."""
    at = wrong_in_lot(places, spots_many(frame))
    if at is not None:
        raise InvalidIndex(at)
    return tuple(places)


def need_classes(frame, classes):
    """The classes as tuples: the state in which nothing was done."""
    if not is_sequence(classes) or len(classes) == 0:
        raise InvalidSource(-1)
    stood = {}
    for at, part in enumerate(classes):
        if not is_class(frame, part) or any([datum in stood for datum in part]):
            raise InvalidSource(at)
        for datum in part:
            stood[datum] = at
    return tuple([tuple(part) for part in classes])


def is_class(frame, part):
    """Whether a value is ascending data, one or more."""
    if not is_sequence(part) or len(part) == 0:
        return False
    return all([is_datum(frame, datum) for datum in part]) and is_ascending(part)


def silent_question(frame, lot, classes, places, program):
    """(the lot, the classes, the places, what the program leaves of the classes at the places)."""
    need_frame(frame)
    atoms, begin, asked = need_lot(lot), need_classes(frame, classes), need_places(frame, places)
    need_program(frame, program)
    rows = unrolled_rows(program)
    left = tuple([tuple([left_of(frame, rows, datum) for datum in part]) for part in begin])
    return atoms, begin, asked, shown_at(left, asked)


def seen_at(datum, places):
    return tuple([datum[place] for place in places])


def shown_at(state, places):
    """What the state's data have at the places; None, where there is no state, shows None."""
    if state is None:
        return None
    return tuple([tuple([seen_at(datum, places) for datum in part]) for part in state])


def silent_moves(frame, lot):
    """For each operation, load and store: (row, for each datum what it shows by the lot and the datum behind)."""
    data, moves = all_data(frame), []
    for row in silent_rows(frame):
        moves.append((row, {datum: shown_move(frame, lot, row, datum) for datum in data}))
    return moves


def shown_move(frame, lot, row, datum):
    event, behind = plain_event(frame, row, datum)
    return values_at(event, lot), behind


def led_on(state, move):
    """The state to which a row leads; None if two data of one class show unlike values."""
    later = []
    for part in state:
        told = [move[datum] for datum in part]
        if any([values != told[0][0] for values, _ in told]):
            return None
        later.append(tuple([behind for _, behind in told]))
    return tuple(later)


def rows_back(came, state):
    """The rows that led to the state."""
    rows = []
    while came[state] is not None:
        state, row = came[state]
        rows.append(row)
    return tuple(rows[::-1])


def state_behind(frame, lot, state, rows):
    """The state to which silent rows lead; None if one of them isn't quiet."""
    for row in rows:
        move = {datum: shown_move(frame, lot, row, datum) for part in state for datum in part}
        state = led_on(state, move)
        if state is None:
            return None
    return state


def are_states(frame, begin, states):
    """Whether all these values are states of as many data as the classes have, ascending."""
    return all([is_state(frame, begin, state) for state in states]) and is_ascending(states)


def is_state(frame, begin, state):
    if not is_tuple_of(state, len(begin)):
        return False
    return all([
        is_tuple_of(part, len(own)) and all([is_datum(frame, datum) for datum in part])
        for part, own in zip(state, begin)])


def is_left_by_none(frame, lot, states):
    """Whether each row that is quiet from one of the states leads to one of them."""
    known = {state: True for state in states}
    for _, move in silent_moves(frame, lot):
        for state in states:
            later = led_on(state, move)
            if later is not None and later not in known:
                return False
    return True
