"""Tables and sheets of two values, and the lines that tell them."""

from leastpromise.errors import InvalidLines, InvalidSheet, InvalidSize, InvalidTable, Refused
from leastpromise.kinds import is_below, is_number, is_sequence, is_size


def need_size(value):
    if not is_size(value):
        raise InvalidSize("size")
    return value


def need_table(size, value):
    """The table, as a tuple, that a sequence of values tells."""
    need_size(size)
    if not is_sequence(value) or len(value) != size * size:
        raise InvalidTable(-1)
    for at, answer in enumerate(value):
        if not is_below(answer, size):
            raise InvalidTable(at)
    return tuple(value)


def lines_sheet(size, lines):
    """The sheet that has in each cell the thing of the last line that meets it."""
    need_size(size)
    need_lines(size, lines)
    sheet = [None] * (size * size)
    for one, other, thing in lines:
        for cell in met_cells(size, one, other):
            sheet[cell] = told_thing(thing)
    for cell, thing in enumerate(sheet):
        if thing is None:
            raise Refused(cell)
    return tuple(sheet)


def sheet_lines(size, sheet):
    """Some fewest lines that tell the sheet."""
    need_size(size)
    return fewest_lines(size, need_sheet(size, sheet), wide_places(size) + single_places(size))


def wide_lines(size, sheet):
    """Some lines that tell the sheet, none of them a single cell; None if there are none."""
    need_size(size)
    return fewest_lines(size, need_sheet(size, sheet), wide_places(size))


def need_lines(size, lines):
    if not is_sequence(lines):
        raise InvalidLines(-1)
    for at, line in enumerate(lines):
        if not is_line(size, line):
            raise InvalidLines(at)


def need_sheet(size, sheet):
    """The sheet, as a tuple of numbers and of tuples of numbers."""
    if not is_sequence(sheet) or len(sheet) != size * size:
        raise InvalidSheet(-1)
    for at, thing in enumerate(sheet):
        if not is_thing(thing):
            raise InvalidSheet(at)
    return tuple([told_thing(thing) for thing in sheet])


def is_line(size, line):
    if not is_sequence(line) or len(line) != 3:
        return False
    return is_place(size, line[0]) and is_place(size, line[1]) and is_thing(line[2])


def is_place(size, value):
    return value is None or is_below(value, size)


def is_thing(value):
    return is_number(value) or is_sequence(value) and all([is_number(part) for part in value])


def told_thing(thing):
    return tuple(thing) if is_sequence(thing) else thing


def met_cells(size, one, other):
    """The numbers of the cells that a line of these places meets."""
    return [
        first * size + second for first in range(size) for second in range(size)
        if one in (None, first) and other in (None, second)]


def wide_places(size):
    """The places of all lines but single cells."""
    rows = [(value, None) for value in range(size)]
    columns = [(None, value) for value in range(size)]
    return [(None, None)] + rows + columns


def single_places(size):
    return [(one, other) for one in range(size) for other in range(size)]


def fewest_lines(size, sheet, places):
    """Some fewest lines at these places that tell the sheet; None if there are none."""
    # Told backwards: the last line shows in all cells that it meets, the one ahead in what is left of its cells.
    masks = [(place, sum([1 << cell for cell in met_cells(size, place[0], place[1])])) for place in places]
    alike = [sum([1 << other for other, thing in enumerate(sheet) if thing == own]) for own in sheet]
    whole = (1 << size * size) - 1
    came, waiting, at = {0: None}, [0], 0
    while at < len(waiting) and whole not in came:
        struck = waiting[at]
        at += 1
        for place, mask in masks:
            left = mask - (mask & struck)
            if left and left & alike[first_cell(left)] == left and struck + left not in came:
                came[struck + left] = (struck, place + (sheet[first_cell(left)],))
                waiting.append(struck + left)
    return lines_back(came, whole) if whole in came else None


def first_cell(mask):
    return (mask & -mask).bit_length() - 1


def lines_back(came, struck):
    """The lines that led to what is struck, the last one struck first."""
    lines = []
    while struck:
        struck, line = came[struck]
        lines.append(line)
    return tuple(lines)
