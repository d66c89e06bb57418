"""Frames, data and programs of the plain machine."""

from leastpromise.errors import InvalidDatum, InvalidFrame, InvalidProgram
from leastpromise.kinds import are_below, is_below, is_row_of_values, is_sequence, is_size, is_table, is_tuple_of

MOST_TABLES = 4
MOST_REGISTERS = 4
MOST_DEEP = 3
MOST_TURNS = 4


def need_frame(value):
    """The frame itself: (size, registers, cells, tables, deep)."""
    if not is_tuple_of(value, 5):
        raise InvalidFrame(-1)
    size, registers, cells, tables, deep = value
    if not is_size(size):
        raise InvalidFrame(0)
    if not is_below(registers, MOST_REGISTERS + 1) or registers == 0:
        raise InvalidFrame(1)
    if not is_below(cells, size + 1) or cells not in (0, size):
        raise InvalidFrame(2)
    if not are_tables(size, tables):
        raise InvalidFrame(3)
    if not is_below(deep, MOST_DEEP + 1):
        raise InvalidFrame(4)
    return value


def all_data(frame):
    """All data of the frame, ascending."""
    need_frame(frame)
    data = [()]
    for _ in range(spots_many(frame)):
        data = [datum + (value,) for datum in data for value in range(frame[0])]
    return tuple(data)


def need_datum(frame, value):
    need_frame(frame)
    if not is_datum(frame, value):
        raise InvalidDatum(-1)
    return value


def need_program(frame, value):
    need_frame(frame)
    if not isinstance(value, tuple):
        raise InvalidProgram(-1)
    for at, row in enumerate(value):
        if not is_row(frame, row):
            raise InvalidProgram(at)
    return value


def unrolled(frame, program):
    """The program with each loop's rows so many times on end."""
    need_program(frame, program)
    return unrolled_rows(program)


def are_tables(size, tables):
    if not isinstance(tables, tuple) or len(tables) > MOST_TABLES:
        return False
    return all([is_table(size, table) for table in tables])


def spots_many(frame):
    """How many values a datum has: those of the registers, then those of the cells."""
    return frame[1] + frame[2]


def is_datum(frame, value):
    return is_row_of_values(value, spots_many(frame), frame[0])


def need_data(frame, data):
    """Some unlike data, as a tuple."""
    if not is_sequence(data):
        raise InvalidDatum(-1)
    stood = set()
    for at, datum in enumerate(data):
        if not is_datum(frame, datum) or datum in stood:
            raise InvalidDatum(at)
        stood.add(datum)
    return tuple(data)


def need_two_data(frame, one, other):
    for at, datum in enumerate((one, other)):
        if not is_datum(frame, datum):
            raise InvalidDatum(at)


def is_program(frame, value):
    """Whether any value is a program of the frame."""
    return are_rows(frame, value)


def is_row(frame, row):
    """Whether a value is a row of a program, with all rows within it."""
    if not isinstance(row, tuple) or len(row) == 0:
        return False
    if row[0] == "fork":
        return len(row) == 4 and is_below(row[1], frame[1]) and are_rows(frame, row[2]) and are_rows(frame, row[3])
    if row[0] == "loop":
        return len(row) == 3 and is_below(row[1], MOST_TURNS + 1) and are_rows(frame, row[2])
    return row == ("fence",) or is_silent_row(frame, row)


def are_rows(frame, rows):
    return isinstance(rows, tuple) and all([is_row(frame, row) for row in rows])


def is_silent_row(frame, row):
    """Whether a value is an operation, a load or a store."""
    if not isinstance(row, tuple) or len(row) == 0:
        return False
    if row[0] == "op":
        return len(row) == 5 and is_below(row[1], len(frame[3])) and are_below(row[2:], frame[1])
    if row[0] in ("load", "store"):
        return frame[2] > 0 and len(row) == 3 and are_below(row[1:], frame[1])
    return False


def silent_rows(frame):
    """All operations, loads and stores."""
    spots = range(frame[1])
    pairs = [(one, other) for one in spots for other in spots]
    tables = range(len(frame[3]))
    rows = [("op", table, to) + pair for table in tables for to in spots for pair in pairs]
    if frame[2]:
        rows.extend([(word,) + pair for word in ("load", "store") for pair in pairs])
    return rows


def plain_rows(frame):
    """All operations, loads, stores and fences, ascending."""
    return (("fence",),) + tuple(sorted(silent_rows(frame)))


def fork_gone(on, side, wrong):
    """The fork whose side that is gone is empty, the other one a wrong way."""
    return ("fork", on) + (((), wrong) if side == 0 else (wrong, ()))


def unrolled_rows(rows):
    told = []
    for row in rows:
        if row[0] == "loop":
            told.extend(unrolled_rows(row[2]) * row[1])
        elif row[0] == "fork":
            told.append(("fork", row[1], unrolled_rows(row[2]), unrolled_rows(row[3])))
        else:
            told.append(row)
    return tuple(told)
