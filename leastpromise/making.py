"""Steps that make values of values by tables, one behind another, and rows of values that are made so."""

from leastpromise.kinds import is_below, is_tuple_of


def may_be_asked(lot, one, other):
    """Whether a table may be asked of two rows of values by a lot of atoms."""
    return (0 not in lot or is_one_value(one)) and (1 not in lot or is_one_value(other))


def is_one_value(row):
    return all([value == row[0] for value in row])


def answered(size, table, one, other):
    """What the table leads two rows of values to, place by place."""
    return tuple([table[first * size + second] for first, second in zip(one, other)])


def are_steps(value, tables_many, values_many):
    """Whether any value is steps by so many tables, over so many values that are there first."""
    if not isinstance(value, tuple):
        return False
    return all([is_step_by(step, tables_many, values_many + at) for at, step in enumerate(value)])


def is_step_by(value, tables_many, values_many):
    if not is_tuple_of(value, 3):
        return False
    return is_below(value[0], tables_many) and is_below(value[1], values_many) and is_below(value[2], values_many)


def rows_behind(size, tables, begin, steps):
    """The rows of values at the begin, and behind them those that the steps make."""
    rows = list(begin)
    for table, one, other in steps:
        rows.append(answered(size, tables[table], rows[one], rows[other]))
    return tuple(rows)


def are_asked_well(size, tables, lot, begin, steps):
    """Whether each of the steps asks a table of rows of which it may be asked."""
    rows = rows_behind(size, tables, begin, steps)
    return all([may_be_asked(lot, rows[one], rows[other]) for _, one, other in steps])


def made_rows(size, tables, lot, begin, wanted):
    """(rows, steps): the rows at the begin and all that steps make, or so many that all wanted ones are there."""
    rows, steps, at = list(begin), [], 0
    known = {row: True for row in begin}
    while at < len(rows) and not all([row in known for row in wanted]):
        for table, one, other in steps_with(len(tables), at):
            if may_be_asked(lot, rows[one], rows[other]):
                row = answered(size, tables[table], rows[one], rows[other])
                if row not in known:
                    known[row] = True
                    rows.append(row)
                    steps.append((table, one, other))
        at += 1
    return tuple(rows), tuple(steps)


def steps_with(tables_many, latest):
    """All steps that ask of the value of this number, and of none behind it."""
    pairs = [(number, latest) for number in range(latest)] + [(latest, number) for number in range(latest + 1)]
    return [(table,) + pair for table in range(tables_many) for pair in pairs]


def is_closed(size, tables, lot, rows):
    """Whether the tables, where they may be asked of these rows, lead to them alone."""
    known = {row: True for row in rows}
    for one in rows:
        for other in rows:
            if may_be_asked(lot, one, other):
                for table in tables:
                    if answered(size, table, one, other) not in known:
                        return False
    return True


def needed_steps(values_many, steps, ends):
    """(steps, ends): only those steps on which the values at the ends hang, the values numbered anew."""
    needed, waiting = {}, list(ends)
    while waiting:
        number = waiting.pop()
        if number not in needed:
            needed[number] = True
            if number >= values_many:
                waiting.extend(steps[number - values_many][1:])
    anew, kept = {number: number for number in range(values_many)}, []
    for at, (table, one, other) in enumerate(steps):
        if values_many + at in needed:
            anew[values_many + at] = values_many + len(kept)
            kept.append((table, anew[one], anew[other]))
    return tuple(kept), tuple([anew[number] for number in ends])
