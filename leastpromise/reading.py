"""Texts read: frames, programs and processors."""

from leastpromise.events import MOST_STATES, event_numbers
from leastpromise.forms import met_cells
from leastpromise.programs import MOST_DEEP, MOST_REGISTERS, MOST_TABLES, MOST_TURNS, need_frame
from leastpromise.texts import GUESSES, REGISTERS
from leastpromise.words import Reader

MOST_BEATS = 999999999


def read_frame(text):
    """The frame that a text tells."""
    reader = Reader(text)
    reader.need("frame")
    size = reader.number(2, 3)
    reader.need("registers")
    registers = reader.number(1, MOST_REGISTERS)
    cells = size if reader.takes("cells") else 0
    reader.need("deep")
    deep = reader.number(0, MOST_DEEP)
    return size, registers, cells, read_tables(reader, size), deep


def read_program(frame, text):
    """The program over the frame that a text tells."""
    need_frame(frame)
    reader = Reader(text)
    blocks = [Block("all", 0)]
    if not reader.is_ended():
        read_line(frame, reader, blocks)
    while not reader.is_ended():
        reader.need("\n")
        read_line(frame, reader, blocks)
    if len(blocks) > 1:
        reader.refuse()
    return tuple(blocks[0].rows)


def read_processor(frame, text):
    """The processor over the frame that a text tells."""
    need_frame(frame)
    reader, numbers = Reader(text), event_numbers(frame)
    guesses, steps = [], []
    while not steps or not reader.is_ended():
        if steps:
            reader.need("\n")
        if is_state_let(steps) and reader.takes("state"):
            guesses.append(reader.one_of(GUESSES))
            steps.append([None] * len(numbers))
        elif steps:
            read_reading(frame, reader, numbers, steps[-1])
        else:
            reader.refuse()
    if None in steps[-1] or not all([later < len(steps) for row in steps for _, later in row]):
        reader.refuse()
    return tuple(guesses), tuple([tuple(row) for row in steps])


class Block:
    """Rows that are read: all, or those of a loop or of a fork's sides."""

    def __init__(self, kind, head):
        self.kind = kind
        self.head = head
        self.first = None
        self.rows = []

    def may_turn(self):
        """Whether the rows of a fork's other side may begin here."""
        return self.kind == "fork" and self.first is None

    def may_end(self):
        return self.kind == "loop" or self.kind == "fork" and self.first is not None

    def turn(self):
        self.first = tuple(self.rows)
        self.rows = []

    def row(self):
        """The row that the rows make, read to its end."""
        sides = (tuple(self.rows),) if self.kind == "loop" else (self.first, tuple(self.rows))
        return (self.kind, self.head) + sides


def read_tables(reader, size):
    """The tables that lines tell, each of them whole, up to the end."""
    sheets = []
    while not reader.is_ended():
        reader.need("\n")
        if len(sheets) < MOST_TABLES and is_whole(sheets) and reader.takes("table"):
            sheets.append([None] * (size * size))
        elif sheets:
            one, other = reader.place(size), reader.place(size)
            reader.need(":")
            answer = reader.number(0, size - 1)
            for cell in met_cells(size, one, other):
                sheets[-1][cell] = answer
        else:
            reader.refuse()
    if not is_whole(sheets):
        reader.refuse()
    return tuple([tuple(sheet) for sheet in sheets])


def is_whole(sheets):
    """Whether the last sheet, if there is one, is told whole."""
    return not sheets or None not in sheets[-1]


def is_state_let(steps):
    """Whether a further state may be told: of the last one all events are."""
    return len(steps) < MOST_STATES and is_whole(steps)


def read_line(frame, reader, blocks):
    """Reads one line of a program, and puts what it tells into the blocks."""
    block = blocks[-1]
    if reader.takes("if"):
        blocks.append(Block("fork", read_register(frame, reader)))
    elif reader.takes("loop"):
        blocks.append(Block("loop", reader.number(0, MOST_TURNS)))
    elif block.may_turn() and reader.takes("else"):
        block.turn()
    elif block.may_end() and reader.takes("end"):
        blocks.pop()
        blocks[-1].rows.append(block.row())
    else:
        block.rows.append(read_plain(frame, reader))


def read_register(frame, reader):
    return reader.one_of(list(REGISTERS)[:frame[1]])


def read_plain(frame, reader):
    """An operation, a load, a store or a fence."""
    if reader.takes("fence"):
        return ("fence",)
    if frame[2] and reader.takes("["):
        at = read_register(frame, reader)
        reader.need("]")
        reader.need("=")
        return "store", at, read_register(frame, reader)
    if not frame[2] and not frame[3]:
        # Nothing tells what a register becomes: so none may stand at a line's begin.
        reader.refuse()
    to = read_register(frame, reader)
    reader.need("=")
    if frame[2] and reader.takes("["):
        at = read_register(frame, reader)
        reader.need("]")
        return "load", to, at
    table = reader.one_of([f"t{number}" for number in range(len(frame[3]))])
    return "op", table, to, read_register(frame, reader), read_register(frame, reader)


def read_reading(frame, reader, numbers, row):
    """Reads one line of a state, and puts beats and the next state into the row, for each event that it meets."""
    events = read_head(frame, reader)
    reader.need(":")
    beats = reader.number(1, MOST_BEATS)
    later = reader.number(0, MOST_STATES - 1)
    for event in events:
        row[numbers[event]] = (beats, later)


def read_head(frame, reader):
    """The events that a line's head meets."""
    if reader.takes("fence"):
        return [("fence",)]
    if reader.takes("fork"):
        side = reader.place(2)
        return [("fork", other) for other in (0, 1) if side in (None, other)]
    ahead = "wrong " if frame[4] and (frame[2] or frame[3]) and reader.takes("wrong") else ""
    words = (["op"] if frame[3] else []) + (["load"] if frame[2] else [])
    words.extend(["store"] if frame[2] and not ahead else [])
    word = words[reader.one_of(words)]
    kind = (ahead + word,)
    if word == "op":
        kind += (reader.number(0, len(frame[3]) - 1),)
    size = frame[0]
    one, other = reader.place(size), reader.place(size)
    return [kind + divmod(cell, size) for cell in met_cells(size, one, other)]
