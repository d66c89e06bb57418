"""[7], [8]: texts written."""

import itertools
import random
import re
import unittest

from leastpromise.errors import InvalidFrame, InvalidProcessor, InvalidProgram
from leastpromise.events import event_number, events_many, frame_events
from leastpromise.forms import sheet_lines
from leastpromise.texts import frame_text, processor_text, program_text
from tests.samples import (
    AND, FRAMES, HUGE, SUM3, XOR, kind_processor, outcome, some_processor, some_programs, try_order, try_wrong)

SMALL = (2, 1, 0, (), 0)
PLACE = r"(\*|[0-3])"
GUESSES = ["none", "first", "second", "both"]


def place(word):
    return None if word == "*" else int(word)


def met(size, one, other):
    return [
        first * size + second for first in range(size) for second in range(size)
        if one in (None, first) and other in (None, second)]


def read_frame(text):
    """The frame that a text written tells, by its lines."""
    lines = text.split("\n")
    head = re.fullmatch(r"frame ([23]) registers ([1-4])( cells)? deep ([0-3])", lines[0])
    size, tables = int(head[1]), []
    for line in lines[1:]:
        if line == "table":
            tables.append([None] * (size * size))
            continue
        found = re.fullmatch(rf" {PLACE} {PLACE} : ([0-2])", line)
        for cell in met(size, place(found[1]), place(found[2])):
            tables[-1][cell] = int(found[3])
    return size, int(head[2]), size if head[3] else 0, tuple(map(tuple, tables)), int(head[4])


def read_program(lines, depth=0):
    """The rows that stand so deep at the begin of the lines, which are taken away."""
    rows = []
    while lines:
        line = lines[0][depth:]
        if lines[0][:depth] != " " * depth or line in ("else", "end"):
            break
        del lines[0]
        if line == "fence":
            rows.append(("fence",))
        elif found := re.fullmatch("([a-d]) = t([0-3]) ([a-d]) ([a-d])", line):
            rows.append(("op", int(found[2])) + tuple("abcd".index(name) for name in found.group(1, 3, 4)))
        elif found := re.fullmatch(r"([a-d]) = \[([a-d])\]", line):
            rows.append(("load",) + tuple("abcd".index(name) for name in found.groups()))
        elif found := re.fullmatch(r"\[([a-d])\] = ([a-d])", line):
            rows.append(("store",) + tuple("abcd".index(name) for name in found.groups()))
        elif found := re.fullmatch("loop ([0-4])", line):
            inner = read_program(lines, depth + 1)
            assert lines.pop(0) == " " * depth + "end"
            rows.append(("loop", int(found[1]), inner))
        else:
            found = re.fullmatch("if ([a-d])", line)
            first = read_program(lines, depth + 1)
            assert lines.pop(0) == " " * depth + "else"
            second = read_program(lines, depth + 1)
            assert lines.pop(0) == " " * depth + "end"
            rows.append(("fork", "abcd".index(found[1]), first, second))
    return tuple(rows)


def read_processor(frame, text):
    guesses, steps = [], []
    for line in text.split("\n"):
        if found := re.fullmatch("state (none|first|second|both)", line):
            guesses.append(GUESSES.index(found[1]))
            steps.append([None] * events_many(frame))
            continue
        head, beats, later = re.fullmatch(r" ([a-z0-9* ]+) : ([1-9][0-9]*) ([0-9]+)", line).groups()
        for event in met_events(frame, head):
            steps[-1][event_number(frame, event)] = (int(beats), int(later))
    return tuple(guesses), tuple(map(tuple, steps))


def met_events(frame, head):
    words = head.split(" ")
    if words == ["fence"]:
        return [("fence",)]
    if words[0] == "fork":
        return [("fork", side) for side in (0, 1) if words[1] in ("*", str(side))]
    ahead = "wrong " if words[0] == "wrong" else ""
    words = words[1:] if ahead else words
    kind = (ahead + words[0],) + ((int(words[1]),) if words[0] == "op" else ())
    size = frame[0]
    return [kind + divmod(cell, size) for cell in met(size, place(words[-2]), place(words[-1]))]


class FrameTextTest(unittest.TestCase):
    def test_by_hand(self):
        self.assertEqual(frame_text(SMALL), "frame 2 registers 1 deep 0")
        self.assertEqual(frame_text((3, 4, 3, (), 3)), "frame 3 registers 4 cells deep 3")
        self.assertEqual(frame_text((2, 1, 2, ((1, 1, 1, 1),), 1)), "frame 2 registers 1 cells deep 1\ntable\n * * : 1")
        told = frame_text((2, 2, 0, ((0, 0, 0, 0), AND), 0)).split("\n")
        self.assertEqual(told, ["frame 2 registers 2 deep 0", "table", " * * : 0", "table", " * * : 0", " 1 1 : 1"])

    def test_all_is_told_by_the_fewest_lines(self):
        tables = list(itertools.product((0, 1), repeat=4))
        frames = [(2, 1, 0, (table, AND), 0) for table in tables] + FRAMES + [(3, 1, 0, (SUM3, (0, 1, 2) * 3), 2)]
        for frame in frames:
            text = frame_text(frame)
            self.assertEqual(read_frame(text), frame)
            lines = sum(len(sheet_lines(frame[0], table)) + 1 for table in frame[3])
            self.assertEqual(len(text.split("\n")), 1 + lines)

    def test_any_values(self):
        try_wrong(self, frame_text, (SMALL,), {0: InvalidFrame})


class ProgramTextTest(unittest.TestCase):
    FRAME = (2, 4, 2, (XOR, AND), 1)

    def test_by_hand(self):
        self.assertEqual(program_text(self.FRAME, ()), "")
        self.assertEqual(program_text(self.FRAME, (("fence",),)), "fence")
        self.assertEqual(program_text(self.FRAME, (("op", 1, 3, 0, 2),)), "d = t1 a c")
        self.assertEqual(program_text(self.FRAME, (("load", 0, 1), ("store", 2, 3))), "a = [b]\n[c] = d")
        self.assertEqual(program_text(self.FRAME, (("fork", 1, (), ()),)), "if b\nelse\nend")
        self.assertEqual(program_text(self.FRAME, (("loop", 0, ()),)), "loop 0\nend")
        program = (
            ("fork", 0, (("fence",), ("loop", 4, (("op", 0, 0, 0, 0),))), (("fork", 3, (), (("load", 1, 1),)),)),
            ("fence",))
        self.assertEqual(program_text(self.FRAME, program), "\n".join([
            "if a", " fence", " loop 4", "  a = t0 a a", " end", "else", " if d", " else", "  b = [b]", " end", "end",
            "fence"]))

    def test_all_is_told(self):
        for frame in FRAMES + [self.FRAME]:
            for program in some_programs(frame, 30, most=5, depth=3, seed=7):
                text = program_text(frame, program)
                lines = text.split("\n") if text else []
                self.assertTrue(all(lines))
                self.assertEqual(read_program(lines), program)
                self.assertEqual(lines, [])

    def test_any_values(self):
        try_wrong(self, program_text, (SMALL, ()), {0: InvalidFrame, 1: InvalidProgram})
        try_order(self, program_text, (SMALL, ()), {0: (None, (InvalidFrame, -1)), 1: (((),), (InvalidProgram, 0))})


class ProcessorTextTest(unittest.TestCase):
    def test_by_hand(self):
        processor = ((0, 3), (((1, 0), (2, 1), (2, 1)), ((123456789, 1), (1, 0), (1, 1))))
        self.assertEqual(processor_text(SMALL, processor), "\n".join([
            "state none", " fence : 1 0", " fork * : 2 1", "state both", " fence : 123456789 1", " fork 0 : 1 0",
            " fork 1 : 1 1"]))
        frame = (2, 1, 2, (AND, XOR), 1)
        read = {"fork 1": (3, 0), "wrong load": (4, 0)}
        row = tuple(read.get(" ".join(map(str, event[:1 + (event[0] == "fork")])), (1, 0)) for event in frame_events(frame))
        self.assertEqual(processor_text(frame, ((1,), (row,))), "\n".join([
            "state first", " op 0 * * : 1 0", " op 1 * * : 1 0", " load * * : 1 0", " store * * : 1 0",
            " wrong op 0 * * : 1 0", " wrong op 1 * * : 1 0", " wrong load * * : 4 0", " fence : 1 0", " fork 0 : 1 0",
            " fork 1 : 3 0"]))
        self.assertEqual(processor_text(SMALL, ((2,), (((1, 0),) * 3,))).split("\n")[0], "state second")

    def fewest(self, frame, processor):
        """How many lines tell the processor, at the least."""
        many = 0
        for row in processor[1]:
            sheets = {}
            for event, told in zip(frame_events(frame), row):
                if event[0] not in ("fence", "fork"):
                    sheets.setdefault(event[:-2], []).append(told)
            many += 2 + sum(len(sheet_lines(frame[0], sheet)) for sheet in sheets.values())
            many += len({told for event, told in zip(frame_events(frame), row) if event[0] == "fork"})
        return many

    def test_all_is_told_by_the_fewest_lines(self):
        draw = random.Random(8)
        for frame in FRAMES + [(2, 2, 2, (XOR, AND), 0), (3, 1, 3, (), 2)]:
            for states in (1, 2, 3, 12):
                for processor in (
                        some_processor(draw, events_many(frame), states), kind_processor(draw, frame_events(frame), states)):
                    text = processor_text(frame, processor)
                    self.assertEqual(read_processor(frame, text), processor)
                    self.assertEqual(len(text.split("\n")), self.fewest(frame, processor))

    def test_lines_stand_in_order(self):
        draw = random.Random(9)
        frame = (2, 1, 2, (AND, XOR), 1)
        order = ["op 0", "op 1", "load", "store", "wrong op 0", "wrong op 1", "wrong load", "fence", "fork"]
        for _ in range(20):
            text = processor_text(frame, some_processor(draw, events_many(frame), 1))
            heads = [re.fullmatch(r" ((wrong )?op [01]|[a-z ]+?)( [*01])* : .*", line)[1] for line in text.split("\n")[1:]]
            self.assertEqual(heads, sorted(heads, key=order.index))
            self.assertEqual(set(heads), set(order))

    def test_great_beats(self):
        processor = ((0,), (((HUGE, 0),) * 3,))
        self.assertEqual(processor_text(SMALL, processor), f"state none\n fence : {HUGE} 0\n fork * : {HUGE} 0")

    def test_any_values(self):
        good = (SMALL, ((0,), (((1, 0),) * 3,)))
        try_wrong(self, processor_text, good, {1: InvalidProcessor})
        try_order(self, processor_text, good, {
            0: (None, (InvalidFrame, -1)), 1: (((4,), (0,)), (InvalidProcessor, 0))})
        self.assertEqual(outcome(processor_text, None, None), (InvalidFrame, -1))


if __name__ == "__main__":
    unittest.main()
