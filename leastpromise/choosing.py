"""Which tables of two values choose: answer one value or another one, as a first one tells."""

from leastpromise.errors import InvalidTable
from leastpromise.kinds import is_ascending, is_row_of_values, is_sequence, is_table, is_tuple_of
from leastpromise.making import are_steps, is_closed, made_rows, needed_steps, rows_behind

# The three values, and the one that is chosen, in all eight cases.
THREE = ((0, 0, 0, 0, 1, 1, 1, 1), (0, 0, 1, 1, 0, 0, 1, 1), (0, 1, 0, 1, 0, 1, 0, 1))
CHOSEN = (0, 0, 1, 1, 0, 1, 0, 1)


def choosing_paper(tables):
    """Some ("way", steps) that choose, or some ("kept", rows, three) that show that none do."""
    need_tables(tables)
    # What steps make of the three values in all eight cases is kept by all tables: a way is there, or the paper.
    rows, steps = made_rows(2, tables, (), THREE, (CHOSEN,))
    if CHOSEN not in rows:
        return "kept", tuple(sorted(rows)), THREE
    return "way", needed_steps(3, steps, (rows.index(CHOSEN),))[0]


def choosing_holds(tables, value):
    """Whether any value is a paper of whether these tables choose."""
    need_tables(tables)
    if is_tuple_of(value, 2) and value[0] == "way":
        return are_choosing(tables, value[1])
    if is_tuple_of(value, 3) and value[0] == "kept":
        return are_kept(tables, value[1]) and is_unchosen(value[1], value[2])
    return False


def need_tables(tables):
    if not is_sequence(tables):
        raise InvalidTable(-1)
    for at, table in enumerate(tables):
        if not is_table(2, table):
            raise InvalidTable(at)


def are_choosing(tables, value):
    """Whether any value is steps by these tables that choose."""
    if not are_steps(value, len(tables), 3) or value == ():
        return False
    return rows_behind(2, tables, THREE, value)[-1] == CHOSEN


def are_kept(tables, rows):
    """Whether any value is ascending rows of values 0 and 1, one or more, of one length, that all tables keep."""
    if not isinstance(rows, tuple) or rows == () or not isinstance(rows[0], tuple):
        return False
    if not all([is_row_of_values(row, len(rows[0]), 2) for row in rows]):
        return False
    return is_ascending(rows) and is_closed(2, tables, (), rows)


def is_unchosen(rows, three):
    """Whether any value is three of these rows of which choosing makes none of them."""
    if not is_tuple_of(three, 3):
        return False
    if not all([is_row_of_values(row, len(rows[0]), 2) and row in rows for row in three]):
        return False
    return tuple([other if first else one for first, one, other in zip(three[0], three[1], three[2])]) not in rows
