"""Programs without their forks: what they leave, told by steps alone."""

from leastpromise.atoms import need_lot
from leastpromise.choosing import are_choosing
from leastpromise.errors import InvalidDatum, InvalidFrame, InvalidRows
from leastpromise.kinds import are_below, is_ascending, is_row_of_values, is_tuple_of
from leastpromise.making import are_asked_well, are_steps, is_closed, made_rows, needed_steps, rows_behind
from leastpromise.programs import need_data, need_datum, need_frame, need_program, unrolled_rows
from leastpromise.runs import left_of

MOST_DATA = 4


def straightened(frame, way, program):
    """Some (steps, ends): the values at the ends are what the program leaves, of all data."""
    need_dry_frame(frame)
    if frame[0] != 2:
        raise InvalidFrame(0)
    if not are_choosing(frame[3], way):
        raise InvalidRows(-1)
    need_program(frame, program)
    steps = []
    ends = straight_ends(frame, way, unrolled_rows(program), tuple(range(frame[1])), steps)
    return tuple(steps), ends


def straight_values(frame, steps, datum):
    """The datum's values, and behind them those that the steps make."""
    need_dry_frame(frame)
    if not are_steps(steps, len(frame[3]), frame[1]):
        raise InvalidRows(-1)
    need_datum(frame, datum)
    rows = rows_behind(frame[0], frame[3], [(value,) for value in datum], steps)
    return tuple([row[0] for row in rows])


def straight_paper(frame, lot, data, program):
    """Some ("way", steps, ends) that may be asked by the lot, or ("lot", rows): there are none."""
    size, tables, atoms, begin, left = straight_question(frame, lot, data, program)
    rows, steps = made_rows(size, tables, atoms, begin, left)
    if not all([row in rows for row in left]):
        return "lot", tuple(sorted(set(rows)))
    return ("way",) + needed_steps(len(begin), steps, [rows.index(row) for row in left])


def straight_holds(frame, lot, data, program, value):
    """Whether any value is such a way, or such a lot, the least one or not."""
    size, tables, atoms, begin, left = straight_question(frame, lot, data, program)
    if is_tuple_of(value, 3) and value[0] == "way":
        _, steps, ends = value
        if not are_steps(steps, len(tables), len(begin)) or not is_tuple_of(ends, len(begin)):
            return False
        if not are_below(ends, len(begin) + len(steps)) or not are_asked_well(size, tables, atoms, begin, steps):
            return False
        rows = rows_behind(size, tables, begin, steps)
        return tuple([rows[number] for number in ends]) == left
    if is_tuple_of(value, 2) and value[0] == "lot":
        return is_lot_of_rows(size, len(begin[0]), value[1]) and is_straight_lot(
            size, tables, atoms, begin, value[1]) and not all([row in value[1] for row in left])
    return False


def need_dry_frame(frame):
    """A frame without cells."""
    need_frame(frame)
    if frame[2] != 0:
        raise InvalidFrame(2)


def straight_question(frame, lot, data, program):
    """(size, tables, lot, the registers' rows of values, those of what the program leaves)."""
    need_dry_frame(frame)
    atoms, told = need_lot(lot), need_data(frame, data)
    if not 1 <= len(told) <= MOST_DATA:
        raise InvalidDatum(-1)
    need_program(frame, program)
    rows = unrolled_rows(program)
    left = rows_across([left_of(frame, rows, datum) for datum in told])
    return frame[0], frame[3], atoms, rows_across(told), left


def rows_across(data):
    """For each spot the row of the values that the data have there."""
    return tuple([tuple([datum[spot] for datum in data]) for spot in range(len(data[0]))])


def straight_ends(frame, way, rows, now, steps):
    """The numbers of the registers' values behind the rows; what makes new ones is put behind the steps."""
    for row in rows:
        if row[0] == "op":
            _, table, to, one, other = row
            now = with_new(frame, now, to, (table, now[one], now[other]), steps)
        elif row[0] == "fork":
            first = straight_ends(frame, way, row[2], now, steps)
            second = straight_ends(frame, way, row[3], now, steps)
            pairs = [(now[row[1]], one, other) for one, other in zip(first, second)]
            now = tuple([chosen(frame, way, three, steps) for three in pairs])
    return now


def with_new(frame, now, to, step, steps):
    """The numbers, with that of the value that a further step makes for one register."""
    steps.append(step)
    return now[:to] + (frame[1] + len(steps) - 1,) + now[to + 1:]


def chosen(frame, way, three, steps):
    """The number of the value that the way chooses of three, by their numbers; it is put behind the steps."""
    if three[1] == three[2]:
        return three[1]
    # The way's own values are numbered behind its three, here behind all that is there.
    behind = frame[1] + len(steps)
    numbers = three + tuple(range(behind, behind + len(way)))
    steps.extend([(table, numbers[one], numbers[other]) for table, one, other in way])
    return numbers[-1]


def is_lot_of_rows(size, length, rows):
    """Whether any value is ascending rows of so many values."""
    return isinstance(rows, tuple) and all([is_row_of_values(row, length, size) for row in rows]) and is_ascending(rows)


def is_straight_lot(size, tables, lot, begin, rows):
    """Whether the rows have those at the begin, and what tables answer where they may be asked."""
    return all([row in rows for row in begin]) and is_closed(size, tables, lot, rows)
