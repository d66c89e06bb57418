"""The compiler whole: fences at just the sides that are loud, else silent rows."""

from leastpromise.atoms import need_lot, values_at
from leastpromise.compiler import need_classes, silent_holds, silent_paper, silent_question
from leastpromise.errors import InvalidRows, Refused
from leastpromise.kinds import is_below, is_same, is_sequence, is_tuple_of
from leastpromise.programs import need_program
from leastpromise.runs import passed_rows


def loud_sides(frame, program, lot, classes):
    """The places of sides that go wrong by wrong events unlike at the lot's atoms, in some class and some turn."""
    need_program(frame, program)
    sides = loud_sides_of(frame, program, need_lot(lot), need_classes(frame, classes))
    if sides is None:
        raise Refused("right")
    return sides


def fenced_program(frame, program, sides):
    """The program with a fence at the begin of each of these sides."""
    need_program(frame, program)
    return fenced_rows(program, (), need_sides(program, sides))


def compiled(frame, lot, classes, places, program):
    """("fenced", program, sides), or, where no fences do, some ("silent", rows), or ("none", states)."""
    atoms, begin, _, _ = silent_question(frame, lot, classes, places, program)
    sides = loud_sides_of(frame, program, atoms, begin)
    if sides is not None:
        return "fenced", fenced_rows(program, (), sides), sides
    word, told = silent_paper(frame, lot, classes, places, program)
    return "silent" if word == "way" else "none", told


def compiled_holds(frame, lot, classes, places, program, value):
    """Whether any value is what is told with fences, or, where they don't do, any such rows or states."""
    atoms, begin, _, _ = silent_question(frame, lot, classes, places, program)
    sides = loud_sides_of(frame, program, atoms, begin)
    if sides is not None:
        return is_same(value, ("fenced", fenced_rows(program, (), sides), sides))
    if not is_tuple_of(value, 2) or value[0] not in ("silent", "none"):
        return False
    word = "way" if value[0] == "silent" else "closed"
    return silent_holds(frame, lot, classes, places, program, (word, value[1]))


def loud_sides_of(frame, program, lot, classes):
    """The places of loud sides, ascending; None if in some class more than wrong events is unlike."""
    loud = {}
    for part in classes:
        runs = [passed_rows(frame, program, (), datum)[0] for datum in part]
        if any([right_trace(run, lot) != right_trace(runs[0], lot) for run in runs]):
            return None
        for at, (path, _, (event, _)) in enumerate(runs[0]):
            shown = [[values_at(read, lot) for read in run[at][2][1]] for run in runs]
            if any([values != shown[0] for values in shown]):
                loud[path + (1 - event[1],)] = True
    return tuple(sorted(loud))


def right_trace(run, lot):
    """For each row gone through its kind, the values of its right event at the lot's atoms, and the side of a fork."""
    told = []
    for _, row, (event, _) in run:
        told.append((row[0], values_at(event, lot), event[1] if event[0] == "fork" else None))
    return told


def need_sides(program, sides):
    """Ascending places of sides, as a tuple."""
    if not is_sequence(sides):
        raise InvalidRows(-1)
    for at, place in enumerate(sides):
        if not is_side_place(program, place) or at > 0 and place <= sides[at - 1]:
            raise InvalidRows(at)
    return tuple(sides)


def is_side_place(rows, place):
    """Whether any value is the place of a side of a fork in these rows, or within them."""
    if not isinstance(place, tuple) or len(place) < 2 or not is_below(place[0], len(rows)):
        return False
    row = rows[place[0]]
    if row[0] == "loop":
        return is_side_place(row[2], place[1:])
    if row[0] != "fork" or not is_below(place[1], 2):
        return False
    return len(place) == 2 or is_side_place(row[2 + place[1]], place[2:])


def fenced_rows(rows, ahead, sides):
    """The rows with a fence at the begin of each of the sides, told by their places behind those ahead."""
    told = []
    for at, row in enumerate(rows):
        path = ahead + (at,)
        if row[0] == "loop":
            told.append(row[:2] + (fenced_rows(row[2], path, sides),))
        elif row[0] == "fork":
            told.append(row[:2] + tuple([fenced_side(row[2 + side], path + (side,), sides) for side in (0, 1)]))
        else:
            told.append(row)
    return tuple(told)


def fenced_side(rows, place, sides):
    fence = (("fence",),) if place in sides else ()
    return fence + fenced_rows(rows, place, sides)
