"""[50], [51]: runs of any depth, programs cut, all fewest fences."""

import itertools
import random
import unittest

from leastpromise.depths import latest_processor, promise_depth
from leastpromise.errors import (
    InvalidDatum, InvalidFrame, InvalidLot, InvalidProcessor, InvalidProgram, InvalidRows, InvalidSize, Refused)
from leastpromise.events import frame_events
from leastpromise.fences import cut_depth, cut_program, deep_run, fence_choices, put_fences
from leastpromise.programs import need_program, unrolled
from leastpromise.runs import run_steps, trace_of
from tests.samples import (
    AND, ANY, HUGE, SUM3, XOR, data_of, is_tupled, kind_processor, outcome, slow_run, some_programs, try_order,
    try_wrong)

FRAME = (2, 2, 0, (XOR,), 2)
FRAMES = [FRAME, (2, 1, 0, (AND,), 1), (2, 2, 2, (AND,), 1), (2, 1, 2, (XOR,), 3), (3, 1, 0, (SUM3,), 2),
    (2, 2, 0, (AND, XOR), 0), (2, 2, 0, (), 1)]
LOTS = [(), (0,), (6,), (7,), (0, 6), (1, 2, 4), (6, 7, 8), (0, 1, 2, 3, 4, 5), tuple(range(10))]
OP, LOAD, FENCE = ("op", 0, 0, 0, 1), ("load", 0, 0), ("fence",)
DRY = (2, 1, 0, (), 1)
STILL = ((0,), (((1, 0),) * 3,))


def sides_in(rows, place=()):
    """(place, rows) of all sides."""
    for at, row in enumerate(rows):
        if row[0] == "fork":
            for side in (0, 1):
                yield place + (at, side), row[2 + side]
                yield from sides_in(row[2 + side], place + (at, side))


def with_rows(rows, place, number):
    """The rows with a fence put in a side, behind so many of its rows."""
    rows = list(rows)
    fork = list(rows[place[0]])
    inner = fork[2 + place[1]]
    fork[2 + place[1]] = inner[:number] + (FENCE,) + inner[number:] if len(place) == 2 else with_rows(inner, place[2:],
        number)
    rows[place[0]] = tuple(fork)
    return tuple(rows)


def wrong_rows(side):
    return len(list(itertools.takewhile(lambda row: row[0] in ("op", "load"), side)))


def fences_in(rows):
    within = [fences_in(side) for row in rows if row[0] == "fork" for side in row[2:]]
    return sum(within) + sum(row == FENCE for row in rows)


class DeepTest(unittest.TestCase):
    def test_runs_of_any_depth(self):
        for frame in FRAMES:
            for program in some_programs(frame, 12, depth=2, seed=50):
                for datum in data_of(frame)[::3]:
                    runs = [deep_run(frame, deep, program, datum) for deep in range(8)]
                    for deep, run in enumerate(runs):
                        self.assertTrue(is_tupled(run))
                        self.assertEqual(run, slow_run(frame[:4] + (deep,), program, datum)[0])
                    self.assertEqual(runs[frame[4]], run_steps(frame, program, datum))
                    for less, more in zip(runs, runs[1:]):
                        self.assertTrue(all(wrong == further[:len(wrong)] for (_, wrong), (_, further) in zip(less,
                            more)))
                    self.assertEqual(deep_run(frame, HUGE, program, datum), deep_run(frame, 1000, program, datum))
        rows = (("fork", 0, (), (("loop", 4, (("op", 0, 0, 0, 0),) * 3),)),)
        self.assertEqual(len(deep_run((2, 1, 0, (AND,), 0), 9, rows, (0,))[0][1]), 9)
        self.assertEqual(len(deep_run((2, 1, 0, (AND,), 0), 99, rows, (0,))[0][1]), 12)

    def test_any_values(self):
        good = (FRAME, 5, (), (0, 0))
        try_wrong(self, deep_run, good, {1: InvalidSize, 2: InvalidProgram, 3: InvalidDatum})
        try_order(self, deep_run, good, {
            0: (None, (InvalidFrame, -1)), 1: (-1, (InvalidSize, "deep")), 2: ((0,), (InvalidProgram, 0)),
            3: ([0], (InvalidDatum, -1))})
        for value in (None, True, "1", -1, -HUGE, (1,)):
            self.assertEqual(outcome(deep_run, FRAME, value, (), (0, 0)), (InvalidSize, "deep"))
            self.assertEqual(outcome(cut_program, FRAME, (), value), (InvalidSize, "many"))


class CutTest(unittest.TestCase):
    def test_by_hand(self):
        frame = (2, 2, 2, (XOR,), 1)
        store = ("store", 0, 0)
        for side, many, expected in (
                ((OP, LOAD), 1, (OP, FENCE, LOAD)), ((OP, LOAD), 2, (OP, LOAD)), ((OP, LOAD), 0, (FENCE, OP, LOAD)),
                ((), 0, ()),
                ((OP, store, OP, OP), 1, (OP, store, OP, OP)), ((store, OP, OP), 0, (store, OP, OP)),
                ((FENCE, OP), 0, (FENCE, OP)),
                ((OP, OP, OP, store), 2, (OP, OP, FENCE, OP, store)), ((OP,), HUGE, (OP,))):
            program = (("fork", 0, side, ()), ("fork", 1, (), (FENCE, ("fork", 0, (), side))))
            cut = (("fork", 0, expected, ()), ("fork", 1, (), (FENCE, ("fork", 0, (), expected))))
            self.assertEqual(cut_program(frame, program, many), cut, (side, many))
        loops = (("fork", 0, (("loop", 2, (OP,)),), (("loop", 0, (OP,)),)),)
        self.assertEqual(cut_program(frame, loops, 1), (("fork", 0, (OP, FENCE, OP), ()),))
        inner = ("fork", 1, (OP,), ())
        self.assertEqual(
            cut_program(frame, (("fork", 0, (OP, OP, inner), ()),), 1), (("fork", 0, (OP, FENCE, OP, inner), ()),))
        self.assertEqual(cut_program(frame, (OP, OP, OP), 0), (OP, OP, OP))

    def test_no_wrong_way_of_more_rows(self):
        for frame in FRAMES:
            for program in some_programs(frame, 15, depth=3, seed=51):
                rows = unrolled(frame, program)
                for many in range(5):
                    cut = cut_program(frame, program, many)
                    need_program(frame, cut)
                    self.assertTrue(all(wrong_rows(side) <= many for _, side in sides_in(cut)))
                    # One fence for each side of more, as each needs one of its own.
                    needed = sum(wrong_rows(side) > many for _, side in sides_in(rows))
                    self.assertEqual(fences_in(cut) - fences_in(rows), needed)
                    for datum in data_of(frame)[::5]:
                        run = deep_run(frame, 99, cut, datum)
                        self.assertTrue(all(len(wrong) <= many for _, wrong in run))
                        right = [event for event, _ in run if event != FENCE]
                        self.assertEqual(right,
                            [event for event, _ in run_steps(frame, program, datum) if event != FENCE])

    def view(self, frame, processor, steps):
        """The view of steps of any depth."""
        events, state, view = frame_events(frame), 0, []
        for event, wrong in steps:
            beats = 0
            read = wrong if event[0] == "fork" and processor[0][state] in ((2, 3), (1, 3))[event[1]] else ()
            for part in read + (event,):
                more, state = processor[1][state][events.index(part)]
                beats += more
            view.append(beats)
        return view

    def trace(self, steps, lot):
        return [trace for event, wrong in steps for trace in [(event[0], event[1] if event[0] == "fork" else None)] + [
            tuple(part[at - 2] for at in (0, 1) if {"op": 0, "wrong op": 6}.get(part[0], 9) + at in lot)
            for part in (event,) + wrong]]

    def test_programs_cut_so_keep_at_every_depth(self):
        frame = (2, 2, 0, (AND, XOR), 1)
        draw, numbers = random.Random(52), []
        processors = [latest_processor(frame, states) for states in (1, 2)]
        for _ in range(60):
            guesses, rows = kind_processor(draw, frame_events(frame), 2, 0.3)
            rows = tuple(tuple(
                (1 if draw.random() < 0.7 else beats, state) if event[0] == "wrong op" else (1, 0)
                for event, (beats, state) in zip(frame_events(frame), row)) for row in rows)
            processors.append(((3,) * len(guesses), rows))
        programs = some_programs(frame, 6, most=2, depth=2, seed=52)
        way = (("op", 0, 0, 0, 1), ("op", 1, 1, 0, 1), ("op", 0, 1, 1, 0))
        programs += [(("fork", 0, way, way),), (("fork", 1, (), way[::-1]), ("fork", 0, way, ()))]
        for processor in processors:
            for lot in ((), (0, 1, 7), (6,), (0, 1, 6, 7)):
                depth, told = promise_depth(frame, processor, lot), outcome(cut_depth, frame, processor, lot)
                if depth == 0:
                    self.assertEqual(told, (Refused, "right"))
                    continue
                self.assertEqual(told, ("told", None if depth is None else depth - 1))
                numbers.append(told[1])
                for program in programs:
                    cut = cut_program(frame, program, 9 if depth is None else depth - 1)
                    for deep in (1, 2, 7):
                        runs = [deep_run(frame, deep, cut, datum) for datum in data_of(frame)]
                        for one, other in itertools.combinations(runs, 2):
                            if self.trace(one, lot) == self.trace(other, lot):
                                self.assertEqual(self.view(frame, processor, one), self.view(frame, processor, other))
        self.assertTrue({None, 0, 1, 2} <= set(numbers), set(numbers))

    def test_cut_at_more_some_program_shows(self):
        frame = (2, 2, 0, (AND,), 1)
        for states in (1, 2):
            processor, lot = latest_processor(frame, states), (0, 1, 7)
            most = cut_depth(frame, processor, lot)
            self.assertEqual(most, 2 * states - 2)
            ways = itertools.product([("op", 0, 0, 0, 0), ("op", 0, 1, 1, 1), ("op", 0, 1, 1, 0)], repeat=most + 1)
            shown = False
            for way in ways:
                program = (("fork", 0, (), way),)
                self.assertEqual(cut_program(frame, program, most + 1), program)
                runs = [deep_run(frame, 9, program, datum) for datum in ((0, 0), (0, 1))]
                if self.trace(runs[0], lot) == self.trace(runs[1], lot):
                    shown = shown or self.view(frame, processor, runs[0]) != self.view(frame, processor, runs[1])
            self.assertTrue(shown)

    def test_any_values(self):
        try_wrong(self, cut_program, (FRAME, (), 1), {1: InvalidProgram, 2: InvalidSize})
        try_order(self, cut_program, (FRAME, (), 1), {
            0: (None, (InvalidFrame, -1)), 1: ((0,), (InvalidProgram, 0)), 2: (-1, (InvalidSize, "many"))})
        good = (DRY, STILL, ())
        try_wrong(self, cut_depth, good, {0: InvalidFrame, 1: InvalidProcessor, 2: InvalidLot})
        try_order(self, cut_depth, good, {
            0: ((2, 1, 0, (), 0), (InvalidFrame, 4)), 1: (((4,), (0,)), (InvalidProcessor, 0)),
            2: ([3, 3], (InvalidLot, 1))})
        self.assertEqual(outcome(cut_depth, (2, 1, 2, (), 0), STILL, ()), (InvalidFrame, 2))
        frame = (2, 1, 0, (AND,), 1)
        ones = ((0,), (tuple((1 + event[2] if event[0] == "op" else 1, 0) for event in frame_events(frame)),))
        self.assertEqual(outcome(cut_depth, frame, ones, ()), (Refused, "right"))
        self.assertIsNone(cut_depth(frame, ones, (0,)))


def is_quiet(frame, program, lot, data):
    return len({trace_of(frame, program, datum, lot) for datum in data}) <= 1


def slow_choices(frame, program, lot, data):
    """(place, most), by what fences put in one side at a time leave unlike in its own wrong events."""
    rows, found = unrolled(frame, program), []
    for place, side in sides_in(rows):
        if any(is_loud_way(frame, rows, place, one, other, lot) for one, other in itertools.combinations(data, 2)):
            quiet = [number for number in range(len(side) + 1) if not any(
                is_loud_way(frame, with_rows(rows, place, number), place, one, other, lot)
                for one, other in itertools.combinations(data, 2))]
            found.append((place, max(quiet)))
    return tuple(sorted(found))


def is_loud_way(frame, rows, place, one, other, lot):
    """Whether data that go alike show unlike wrong events at this side."""
    ways = [wrong_at(frame, rows, place, datum) for datum in (one, other)]
    if None in ways:
        return False
    shown = [[tuple(event[at - 2] for at in (0, 1) if {"wrong op": 6,
        "wrong load": 8}[event[0]] + at in lot) for event in way] for way in ways]
    return shown[0] != shown[1]


def wrong_at(frame, rows, place, datum):
    """The wrong events of this side, or None if the datum doesn't go there."""
    from leastpromise.runs import datum_behind
    at, side = place[:2]
    for row in rows[:at]:
        datum = datum_behind(frame, (row,), datum)
    fork = rows[at]
    gone = 1 if datum[fork[1]] else 0
    if len(place) > 2:
        return wrong_at(frame, fork[2 + side], place[2:], datum) if gone == side else None
    return None if gone == side else run_steps(frame, (fork,), datum)[0][1]


class ChoicesTest(unittest.TestCase):
    def test_the_printed_example(self):
        frame = (2, 2, 0, ((0, 1, 1, 0),), 2)
        program = (("fork", 0, (), (("op", 0, 0, 0, 0), ("op", 0, 1, 1, 0))),)
        self.assertEqual(fence_choices(frame, program, (6,), [(0, 0), (0, 1)]), (((0, 1), 1),))

    def cases(self, many=150):
        for frame in FRAMES:
            draw = random.Random(f"53 {frame}")
            for program in some_programs(frame, many, depth=2, seed=53):
                lot = draw.choice(LOTS + [(6,), (7,), (6, 7), (8,), (9,), (6, 7, 8, 9)] * 2)
                by_sides = {}
                for datum in data_of(frame):
                    sides = tuple(event for event, _ in run_steps(frame, program, datum) if event[0] == "fork")
                    by_sides.setdefault((sides, str(trace_of(frame, program, datum, [atom for atom in lot if atom < 6]))), []).append(datum)
                groups = [group for group in by_sides.values() if len(group) > 1]
                data = draw.choice(groups * 2 + [draw.sample(data_of(frame), 2)])
                yield frame, program, lot, draw.sample(data, min(len(data), 4))

    def test_which_sides_and_how_far(self):
        told_ones, refused = set(), 0
        for frame, program, lot, data in self.cases():
            told = outcome(fence_choices, frame, program, lot, data)
            rows = unrolled(frame, program)
            right = [[(event[0], [event[at - 2] for at in (0, 1) if {"op": 0, "load": 2, "store": 4}.get(event[0], 10) + at in lot],
                       event[1:] if event[0] == "fork" else None) for event, _ in run_steps(frame, program,
                       datum)] for datum in data]
            if any(one != right[0] for one in right):
                self.assertEqual(told, (Refused, "right"))
                refused += 1
                continue
            self.assertEqual(told, ("told", slow_choices(frame, program, lot, data)), (frame, program, lot, data))
            self.assertTrue(is_tupled(told[1]))
            told_ones.add(told[1])
            self.assertEqual(told[1] == (), is_quiet(frame, program, lot, data))
            fenced = put_fences(frame, program, told[1])
            self.assertTrue(is_quiet(frame, fenced, lot, data))
            self.assertEqual(fences_in(fenced), fences_in(rows) + len(told[1]))
            for datum in data_of(frame)[::7]:
                self.assertEqual(slow_run(frame, fenced, datum)[1], slow_run(frame, program, datum)[1])
        self.assertGreater(len(told_ones), 8)
        self.assertGreater(refused, 10)

    def test_fences_anywhere_do_exactly_if_one_stands_so(self):
        frame = (2, 2, 0, (XOR,), 3)
        way = (OP, ("op", 0, 1, 1, 0), OP)
        program = (("fork", 0, (("fork", 1, way[1:], way),), way),)
        for data in ([(0, 0), (0, 1)], [(1, 0), (1, 1)], [(0, 0)], []):
            for lot in ((6,), (7,), ()):
                told = outcome(fence_choices, frame, program, lot, data)
                if told[0] == Refused:
                    continue
                sides = list(sides_in(program))
                for numbers in itertools.product(*[(None,) + tuple(range(len(side) + 1)) for _, side in sides]):
                    choices = tuple((place, number) for (place, _), number in zip(sides, numbers) if number is not None)
                    fenced = put_fences(frame, program, choices)
                    expected = all(any(place == other and number <= most for other, number in choices) for place, most in told[1])
                    self.assertIs(is_quiet(frame, fenced, lot, data), expected, (choices, told))

    def test_put(self):
        program = (OP, ("loop", 2, (("fork", 0, (OP, ("fork", 1, (), (OP,))), ()),)))
        rows = unrolled(FRAME, program)
        sides = list(sides_in(rows))
        self.assertEqual(len(sides), 8)
        for chosen in itertools.chain.from_iterable(itertools.combinations(sides, many) for many in range(4)):
            for last in (False, True):
                choices = [(place, len(side) if last else 0) for place, side in sorted(chosen)]
                expected = rows
                for place, number in sorted(choices, reverse=True):
                    expected = with_rows(expected, place, number)
                told = put_fences(FRAME, program, choices)
                self.assertEqual(told, expected)
                self.assertTrue(is_tupled(told))
                self.assertEqual(told, put_fences(FRAME, program, tuple(choices)))
        self.assertEqual(put_fences(FRAME, program, []), rows)
        # A fence ahead of a fork moves it, but not the place that is told of its sides.
        self.assertEqual(
            put_fences(FRAME, (("fork", 0, (("fork", 1, (), (OP,)),), ()),), [((0, 0), 0), ((0, 0, 0, 1), 1)]),
            (("fork", 0, (FENCE, ("fork", 1, (), (OP, FENCE))), ()),))

    def test_wrong_choices(self):
        program = (("fork", 0, (OP, ("fork", 1, (), (OP,))), ()),)
        good = ((0, 0), 1)
        for choices, at in (
                (None, -1), (0, -1), ("", -1), ([0], 0), ([()], 0), ([((0, 0),)], 0), ([((0, 0), 3)], 0),
                ([((0, 0), -1)], 0),
                ([((0, 0), True)], 0), ([((0, 0), None)], 0), ([((0, 2), 0)], 0), ([((1, 0), 0)], 0), ([((0,), 0)], 0),
                ([((), 0)], 0), ([((0, 0, 0, 0), 0)], 0),
                ([((0, 0, 1), 0)], 0), ([((0, 0, 1, 1, 0, 0), 0)], 0), ([[(0, 0), 0]], 0), ([([0, 0], 0)], 0),
                ([good, good], 1), ([good, ((0, 0), 2)], 1),
                ([((0, 1), 0), good], 1), ([good, ((0, 0, 1, 1), 1), ((0, 0, 1, 0), 0)], 2), ([((0, False), 0)], 0),
                ([((0, 0), HUGE)], 0)):
            self.assertEqual(outcome(put_fences, FRAME, program, choices), (InvalidRows, at), choices)
        self.assertEqual(outcome(put_fences, FRAME, program, [good, ((0, 0, 1, 1), 1), ((0, 1), 0)])[0], "told")
        # Places are those of the program unrolled.
        loop = (("loop", 2, program),)
        self.assertEqual(outcome(put_fences, FRAME, loop, [((0, 0, 0), 0)]), (InvalidRows, 0))
        self.assertEqual(outcome(put_fences, FRAME, loop, [((1, 0), 0)])[0], "told")
        for value in ANY:
            self.assertIn(outcome(put_fences, FRAME, program, value)[0], (InvalidRows, "told"), value)
            self.assertIn(outcome(put_fences, FRAME, program, [value])[0], (InvalidRows,), value)
        try_order(self, put_fences, (FRAME, (), ()), {
            0: (None, (InvalidFrame, -1)), 1: ((0,), (InvalidProgram, 0)), 2: ([0], (InvalidRows, 0))})

    def test_any_values(self):
        good = (FRAME, (OP,), (), [(0, 0)])
        try_wrong(self, fence_choices, good, {1: InvalidProgram, 2: InvalidLot, 3: InvalidDatum})
        try_order(self, fence_choices, good, {
            0: (None, (InvalidFrame, -1)), 1: ((0,), (InvalidProgram, 0)), 2: ([3, 3], (InvalidLot, 1)),
            3: ([(0, 0), (0, 0)], (InvalidDatum, 1))})
        self.assertEqual(fence_choices(FRAME, (OP,), (0,), []), ())
        self.assertEqual(outcome(fence_choices, FRAME, (("fork", 0, (), ()),), (), data_of(FRAME)), (Refused, "right"))
        self.assertEqual(outcome(fence_choices, FRAME, (OP,), (0,), data_of(FRAME)), (Refused, "right"))


if __name__ == "__main__":
    unittest.main()
