"""Texts of frames, programs and processors."""

from leastpromise.events import event_numbers, need_processor
from leastpromise.forms import sheet_lines
from leastpromise.programs import need_frame, need_program

REGISTERS = "abcd"
GUESSES = ("none", "first", "second", "both")


def frame_text(frame):
    """The frame's text: a line for itself, and for each table its lines."""
    need_frame(frame)
    size, many, cells, tables, deep = frame
    kept = " cells" if cells else ""
    lines = [f"frame {size} registers {many}{kept} deep {deep}"]
    for table in tables:
        lines.append("table")
        lines.extend([f" {places} : {value}" for places, value in placed_lines(size, table)])
    return "\n".join(lines)


def program_text(frame, program):
    """The program's text, a line for each row, and for the ends and others of forks and loops."""
    need_program(frame, program)
    return "\n".join(rows_lines(program, ""))


def processor_text(frame, processor):
    """The processor's text, for each state its guess and the lines of all events."""
    need_processor(frame, processor)
    guesses, steps = processor
    numbers = event_numbers(frame)
    lines = []
    for guess, row in zip(guesses, steps):
        lines.append(f"state {GUESSES[guess]}")
        lines.extend(state_lines(frame, {event: row[numbers[event]] for event in numbers}))
    return "\n".join(lines)


def placed_lines(size, sheet):
    """(both places as a text, thing) of the fewest lines that tell a sheet."""
    return [
        (f"{place_text(one)} {place_text(other)}", thing) for one, other, thing in sheet_lines(size, sheet)]


def place_text(place):
    return "*" if place is None else str(place)


def rows_lines(rows, blanks):
    lines = []
    for row in rows:
        if row[0] == "fork":
            lines.append(f"{blanks}if {REGISTERS[row[1]]}")
            lines.extend(rows_lines(row[2], blanks + " "))
            lines.append(f"{blanks}else")
            lines.extend(rows_lines(row[3], blanks + " "))
            lines.append(f"{blanks}end")
        elif row[0] == "loop":
            lines.append(f"{blanks}loop {row[1]}")
            lines.extend(rows_lines(row[2], blanks + " "))
            lines.append(f"{blanks}end")
        else:
            lines.append(blanks + row_text(row))
    return lines


def row_text(row):
    """The text of an operation, a load, a store or a fence."""
    if row[0] == "fence":
        return "fence"
    names = [REGISTERS[number] for number in row[2 if row[0] == "op" else 1:]]
    if row[0] == "op":
        return f"{names[0]} = t{row[1]} {names[1]} {names[2]}"
    return f"{names[0]} = [{names[1]}]" if row[0] == "load" else f"[{names[0]}] = {names[1]}"


def state_lines(frame, reading):
    """The lines of what a state reads of each event."""
    lines = sheets_lines(frame, reading, "")
    if frame[4]:
        lines.extend(sheets_lines(frame, reading, "wrong "))
    lines.append(reading_line("fence", reading[("fence",)]))
    sides = [reading[("fork", side)] for side in (0, 1)]
    if sides[0] == sides[1]:
        return lines + [reading_line("fork *", sides[0])]
    return lines + [reading_line(f"fork {side}", told) for side, told in enumerate(sides)]


def sheets_lines(frame, reading, ahead):
    """The lines of all events of two values, right ones or wrong ones."""
    size, lines = frame[0], []
    for kind in sheet_kinds(frame, ahead):
        sheet = [reading[kind + (one, other)] for one in range(size) for other in range(size)]
        head = " ".join([str(part) for part in kind])
        lines.extend([reading_line(f"{head} {places}", told) for places, told in placed_lines(size, sheet)])
    return lines


def sheet_kinds(frame, ahead):
    """The words of these events, and of operations their tables."""
    kinds = [(ahead + "op", table) for table in range(len(frame[3]))]
    if frame[2]:
        kinds.extend([(ahead + word,) for word in (("load",) if ahead else ("load", "store"))])
    return kinds


def reading_line(head, told):
    beats, later = told
    return f" {head} : {beats} {later}"
