"""Wrong ways of any depth on the plain machine, programs cut, and all fewest fences that make one quiet."""

from leastpromise.atoms import need_lot, values_at
from leastpromise.code import is_side_place, right_trace
from leastpromise.depths import promise_depth, with_deep
from leastpromise.errors import InvalidRows, InvalidSize, Refused
from leastpromise.kinds import is_below, is_number, is_sequence, is_tuple_of
from leastpromise.programs import need_data, need_datum, need_frame, need_program, unrolled_rows
from leastpromise.runs import passed_rows, steps_of

FENCE = ("fence",)


def deep_run(frame, deep, program, datum):
    """The run with this depth for the frame's."""
    need_frame(frame)
    need_number(deep, "deep")
    need_program(frame, program)
    need_datum(frame, datum)
    return steps_of(with_deep(frame, deep), unrolled_rows(program), datum)


def cut_program(frame, program, many):
    """The program unrolled, with fences by which no side's wrong way is of more than so many rows."""
    need_program(frame, program)
    need_number(many, "many")
    return cut_rows(unrolled_rows(program), many)


def cut_depth(frame, processor, lot):
    """At how many rows programs may be cut at most, so that the lot is kept at every depth; None for any."""
    depth = promise_depth(frame, processor, lot)
    if depth == 0:
        raise Refused("right")
    return None if depth is None else depth - 1


def fence_choices(frame, program, lot, data):
    """(place, most) of the sides whose wrong events are unlike on the data, with how many first ones are alike."""
    need_program(frame, program)
    atoms, told = need_lot(lot), need_data(frame, data)
    choices = choices_of(frame, unrolled_rows(program), atoms, told)
    if choices is None:
        raise Refused("right")
    return choices


def put_fences(frame, program, choices):
    """The program unrolled, with a fence in each of these sides, behind so many of its rows."""
    need_program(frame, program)
    rows = unrolled_rows(program)
    need_choices(rows, choices)
    return with_fences(rows, choices)


def need_number(value, word):
    if not is_number(value):
        raise InvalidSize(word)


def cut_rows(rows, many):
    told = []
    for row in rows:
        told.append(row[:2] + tuple([cut_side(side, many) for side in row[2:]]) if row[0] == "fork" else row)
    return tuple(told)


def cut_side(rows, many):
    """The rows of a side, with a fence behind the first many if there are more operations and loads on end."""
    length = 0
    while length < len(rows) and rows[length][0] in ("op", "load"):
        length += 1
    cut = cut_rows(rows, many)
    return cut[:many] + (FENCE,) + cut[many:] if length > many else cut


def choices_of(frame, rows, lot, data):
    """The choices of fences for rows without loops; None if right events at the lot, or sides, are unlike."""
    runs = [passed_rows(frame, rows, (), datum)[0] for datum in data]
    if any([right_trace(run, lot) != right_trace(runs[0], lot) for run in runs]):
        return None
    found = []
    for at, (path, _, (event, _)) in enumerate(runs[0] if runs else []):
        shown = [[values_at(read, lot) for read in run[at][2][1]] for run in runs]
        most = min([alike_ahead(shown[0], values) for values in shown])
        if most < len(shown[0]):
            found.append((path + (1 - event[1],), most))
    return tuple(sorted(found))


def alike_ahead(values, others):
    """How many first ones of two rows of one length are alike."""
    at = 0
    while at < len(values) and values[at] == others[at]:
        at += 1
    return at


def need_choices(rows, choices):
    if not is_sequence(choices):
        raise InvalidRows(-1)
    for at, choice in enumerate(choices):
        if not is_choice(rows, choice) or at > 0 and choice[0] <= choices[at - 1][0]:
            raise InvalidRows(at)


def is_choice(rows, value):
    """Whether any value is (place of a side, a number up to that of its rows)."""
    if not is_tuple_of(value, 2) or not is_side_place(rows, value[0]):
        return False
    return is_below(value[1], len(side_at(rows, value[0])) + 1)


def side_at(rows, place):
    """The rows of the side at this place of rows without loops."""
    side = rows[place[0]][2 + place[1]]
    return side if len(place) == 2 else side_at(side, place[2:])


def with_fences(rows, choices):
    """Rows without loops, with a fence for each of these choices."""
    # From the last one on: a fence in a side moves the rows behind it, and the places within them.
    for place, number in choices[::-1]:
        rows = with_fence(rows, place, number)
    return rows


def with_fence(rows, place, number):
    """The rows, with a fence in the side at this place, behind so many of its rows."""
    at, side = place[:2]
    inner = rows[at][2 + side]
    inner = inner[:number] + (FENCE,) + inner[number:] if len(place) == 2 else with_fence(inner, place[2:], number)
    row = rows[at][:2 + side] + (inner,) + rows[at][3 + side:]
    return rows[:at] + (row,) + rows[at + 1:]
