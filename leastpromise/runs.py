"""Runs of programs, and their traces."""

from leastpromise.atoms import atoms_of_step, need_lot, steps_trace, unlike_in
from leastpromise.programs import need_data, need_datum, need_program, need_two_data, unrolled_rows


def run_steps(frame, program, datum):
    """The steps, (event, wrong events), that the program goes through on the datum."""
    need_run(frame, program, datum)
    return steps_of(frame, unrolled_rows(program), datum)


def datum_behind(frame, program, datum):
    """What the program leaves of the datum."""
    need_run(frame, program, datum)
    return left_of(frame, unrolled_rows(program), datum)


def trace_of(frame, program, datum, lot):
    need_run(frame, program, datum)
    atoms = need_lot(lot)
    return steps_trace(steps_of(frame, unrolled_rows(program), datum), atoms)


def traces_parts(frame, program, data, lot):
    """The parts of the data that have one trace each."""
    need_program(frame, program)
    told, atoms = need_data(frame, data), need_lot(lot)
    rows, parts = unrolled_rows(program), {}
    for datum in sorted(told):
        parts.setdefault(steps_trace(steps_of(frame, rows, datum), atoms), []).append(datum)
    return tuple(sorted([tuple(part) for part in parts.values()]))


def step_atoms(step):
    """For each of the ten atoms the tuple of its values in the step."""
    return atoms_of_step(step)


def unlike_atoms(frame, program, one, other):
    """(the atoms at which two data's steps differ up to the first unlike sides, whether there are such)."""
    need_program(frame, program)
    need_two_data(frame, one, other)
    rows = unrolled_rows(program)
    return unlike_in(steps_of(frame, rows, one), steps_of(frame, rows, other))


def need_run(frame, program, datum):
    need_program(frame, program)
    need_datum(frame, datum)


def steps_of(frame, rows, datum):
    """The steps of rows on the datum."""
    return tuple([step for _, _, step in passed_rows(frame, rows, (), datum)[0]])


def left_of(frame, rows, datum):
    """What rows leave of the datum."""
    return passed_rows(frame, rows, (), datum)[1]


def passed_rows(frame, rows, ahead, datum):
    """((path, row, step) for each row that is gone through, what the rows leave of the datum).

    A path is the numbers that lead to a row from those ahead: rows' numbers, and behind a fork the side.
    """
    passed = []
    for at, row in enumerate(rows):
        path = ahead + (at,)
        if row[0] == "loop":
            for _ in range(row[1]):
                more, datum = passed_rows(frame, row[2], path, datum)
                passed.extend(more)
        elif row[0] == "fork":
            side = side_of(row, datum)
            wrong = wrong_events(frame, unrolled_rows(row[3 - side]), datum)
            passed.append((path, row, (("fork", side), wrong)))
            more, datum = passed_rows(frame, row[2 + side], path + (side,), datum)
            passed.extend(more)
        else:
            event, datum = plain_event(frame, row, datum)
            passed.append((path, row, (event, ())))
    return passed, datum


def side_of(fork, datum):
    """The side that the datum goes at the fork."""
    return 0 if datum[fork[1]] == 0 else 1


def wrong_events(frame, rows, datum):
    """The events of the first rows of the side that is not gone."""
    events = []
    for row in rows[:frame[4]]:
        if row[0] not in ("op", "load"):
            break
        event, datum = plain_event(frame, row, datum)
        events.append(("wrong " + event[0],) + event[1:])
    return tuple(events)


def plain_event(frame, row, datum):
    """(the event of an operation, a load, a store or a fence, the datum behind it)."""
    word = row[0]
    if word == "op":
        one, other = datum[row[3]], datum[row[4]]
        answer = frame[3][row[1]][one * frame[0] + other]
        return ("op", row[1], one, other), with_value(datum, row[2], answer)
    if word == "load":
        address = datum[row[2]]
        value = datum[frame[1] + address]
        return ("load", address, value), with_value(datum, row[1], value)
    if word == "store":
        address, value = datum[row[1]], datum[row[2]]
        return ("store", address, value), with_value(datum, frame[1] + address, value)
    return ("fence",), datum


def with_value(datum, spot, value):
    return datum[:spot] + (value,) + datum[spot + 1:]
