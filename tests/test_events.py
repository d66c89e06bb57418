"""[13]: events, processors, views."""

import itertools
import random
import unittest

from leastpromise.errors import InvalidDatum, InvalidEvents, InvalidFrame, InvalidIndex, InvalidProcessor, InvalidProgram
from leastpromise.events import (
    event_number, events_many, frame_events, need_processor, read_events, read_step, view_from, view_of)
from leastpromise.runs import datum_behind, run_steps
from tests.samples import ANY, AND, FRAMES, HUGE, XOR, data_of, outcome, some_processor, some_programs, try_order, try_wrong

SMALL = (2, 1, 0, (), 0)
CELLS = (2, 2, 2, (XOR, AND), 2)


def listed_events(frame):
    """The events of the frame, written out."""
    size, _, cells, tables, deep = frame
    pairs = list(itertools.product(range(size), range(size)))
    ops = [(table, one, other) for table in range(len(tables)) for one, other in pairs]
    told = [("op",) + rest for rest in ops]
    if cells:
        told += [("load",) + pair for pair in pairs] + [("store",) + pair for pair in pairs]
    told += [("fence",), ("fork", 0), ("fork", 1)]
    if deep > 0:
        told += [("wrong op",) + rest for rest in ops]
        if cells:
            told += [("wrong load",) + pair for pair in pairs]
    return told


def slow_view(frame, processor, state, steps):
    guesses, rows = processor
    events, view = listed_events(frame), []
    for event, wrong in steps:
        read = []
        if event[0] == "fork" and guesses[state] in ((2, 3), (1, 3))[event[1]]:
            read += wrong
        beats = 0
        for part in read + [event]:
            more, state = rows[state][events.index(part)]
            beats += more
        view.append(beats)
    return tuple(view), state


def processors(frame, many=3, seed=0):
    draw = random.Random(f"{seed} {frame}")
    return [some_processor(draw, len(listed_events(frame)), draw.randrange(1, 4)) for _ in range(many)]


class EventsTest(unittest.TestCase):
    def test_by_hand(self):
        self.assertEqual(frame_events(SMALL), (("fence",), ("fork", 0), ("fork", 1)))
        self.assertEqual(events_many((3, 4, 3, ((0,) * 9,) * 4, 3)), 102)
        events = frame_events(CELLS)
        self.assertEqual(events[:5], (("op", 0, 0, 0), ("op", 0, 0, 1), ("op", 0, 1, 0), ("op", 0, 1, 1), ("op", 1, 0, 0)))
        self.assertEqual(events[8:20:4], (("load", 0, 0), ("store", 0, 0), ("fence",)))
        self.assertEqual(events[17:20], (("fork", 0), ("fork", 1), ("wrong op", 0, 0, 0)))
        self.assertEqual(events[-1], ("wrong load", 1, 1))

    def test_all_in_order_with_their_numbers(self):
        for frame in FRAMES:
            for deep in range(4):
                frame = frame[:4] + (deep,)
                events = frame_events(frame)
                self.assertEqual(list(events), listed_events(frame))
                self.assertEqual(events_many(frame), len(events))
                self.assertEqual([event_number(frame, event) for event in events], list(range(len(events))))

    def test_what_is_no_event(self):
        shallow = CELLS[:4] + (0,)
        wrong = [
            None, 0, "fence", (), ["fence"], ("fence", 0), (("fence",),), ("fork",), ("fork", 2), ("fork", False),
            ("fork", 0, 0), ("op", 0, 0), ("op", 2, 0, 0), ("op", True, 0, 0), ("op", 0, 2, 0), ("op", 0, 0, HUGE),
            ("op", 0, 0, -1), ("load", 0, 2), ("load", 0, 0, 0), ("wrong fence",), ("wrong store", 0, 0), ("store", [0], 0),
            ["load", 0, 0], ("wrong op", 0, None, 0), "", True]
        for event in wrong:
            self.assertEqual(outcome(event_number, CELLS, event), (InvalidEvents, -1), event)
        for event in (("wrong op", 0, 0, 0), ("wrong load", 0, 0)):
            self.assertEqual(outcome(event_number, CELLS, event)[0], "told")
            self.assertEqual(outcome(event_number, shallow, event), (InvalidEvents, -1))
        for event in (("load", 0, 0), ("op", 0, 0, 0)):
            self.assertEqual(outcome(event_number, SMALL, event), (InvalidEvents, -1))


class ProcessorsTest(unittest.TestCase):
    def test_right_ones_are_told_as_they_are(self):
        for frame in FRAMES:
            for processor in processors(frame):
                self.assertIs(need_processor(frame, processor), processor)
        big = ((3,) * 60, (((HUGE, 59),) * 3,) * 60)
        self.assertIs(need_processor(SMALL, big), big)

    def test_wrong_ones(self):
        row = ((1, 0),) * 3
        for value in (None, 0, (), ((), ()), ((0,),), ((0,), (row, row)), ((0, 0), (row,)), [(0,), (row,)], ([0], (row,)),
                      ((0,), [row]), ((0,), (row,), ()), ((0,) * 61, (row,) * 61), "ab", (0, 0), ("0", (row,))):
            self.assertEqual(outcome(need_processor, SMALL, value), (InvalidProcessor, -1), value)
        for guess in (4, -1, True, None, "0", HUGE, (0,)):
            self.assertEqual(outcome(need_processor, SMALL, ((0, guess), (None, None))), (InvalidProcessor, 0), guess)
        reads = [(0, 0), (1, 2), (1, -1), (True, 0), (1, False), (1, None), ("1", 0), (1,), (1, 0, 0), [1, 0], None, 1,
                 (-1, 0), (1, HUGE)]
        for read in reads:
            wrong = row[:2] + (read,)
            self.assertEqual(outcome(need_processor, SMALL, ((0, 0), (row, wrong))), (InvalidProcessor, 2), read)
            self.assertEqual(outcome(need_processor, SMALL, ((0, 0), (wrong, None))), (InvalidProcessor, 1), read)
        for wrong in (row[:2], row + row[:1], list(row), None, ()):
            self.assertEqual(outcome(need_processor, SMALL, ((0, 0, 0), (row, wrong, wrong))), (InvalidProcessor, 2))


class ViewsTest(unittest.TestCase):
    def test_by_hand(self):
        frame = (2, 2, 0, (XOR,), 1)
        processor = ((3,), (((1, 0),) * 9 + ((2, 0),) * 2,))
        program = (("fork", 0, (), (("op", 0, 0, 1, 0),)),)
        views = [view_of(frame, processor, program, datum) for datum in data_of(frame)]
        self.assertEqual(views, [(2,), (3,), (1, 1), (1, 1)])
        self.assertEqual(view_of(frame, processor, (), (0, 0)), ())
        self.assertEqual(view_from(frame, processor, 0, (), (0, 0)), ((), 0))

    def test_only_guessed_wrong_ways_are_read_and_first(self):
        frame = (2, 1, 0, (XOR,), 1)
        wrong = (("wrong op", 0, 1, 1),)
        for guess, side in itertools.product(range(4), (0, 1)):
            row = tuple((1, 0) for _ in range(10)) + ((5, 1),)
            late = ((7, 0),) * 11
            told = read_step(frame, ((guess, 0), (row, late)), 0, (("fork", side), wrong))
            guessed = guess in ((2, 3), (1, 3))[side]
            self.assertEqual(told, (12, 0) if guessed else (1, 0), (guess, side))

    def test_the_guess_is_that_of_the_state_at_the_fork(self):
        frame = (2, 1, 0, (XOR,), 2)
        row = tuple((1, 1) for _ in range(11))
        wrong = (("wrong op", 0, 0, 0), ("wrong op", 0, 0, 0))
        self.assertEqual(read_step(frame, ((0, 3), (row, row)), 0, (("fork", 0), wrong)), (1, 1))
        self.assertEqual(read_step(frame, ((3, 0), (row, row)), 0, (("fork", 0), wrong)), (3, 1))

    def test_all_as_read_slowly(self):
        for frame in FRAMES:
            for processor in processors(frame):
                for program in some_programs(frame, 6, seed=13):
                    for datum in data_of(frame)[::5]:
                        steps = run_steps(frame, program, datum)
                        self.assertEqual(view_of(frame, processor, program, datum), slow_view(frame, processor, 0, steps)[0])
                        for state in range(len(processor[0])):
                            told = slow_view(frame, processor, state, steps)
                            self.assertEqual(view_from(frame, processor, state, program, datum), told)
                            self.check_steps(frame, processor, state, steps, told)

    def check_steps(self, frame, processor, state, steps, told):
        beats = []
        for step in steps:
            more, state = read_step(frame, processor, state, step)
            beats.append(more)
        self.assertEqual((tuple(beats), state), told)

    def test_one_program_and_then_another(self):
        for frame in FRAMES:
            one, other = some_programs(frame, 2, seed=14)
            for processor in processors(frame):
                for datum in data_of(frame)[::3]:
                    first, state = view_from(frame, processor, 0, one, datum)
                    second, last = view_from(frame, processor, state, other, datum_behind(frame, one, datum))
                    self.assertEqual(view_from(frame, processor, 0, one + other, datum), (first + second, last))

    def test_events_by_number(self):
        for frame in FRAMES:
            many = events_many(frame)
            draw = random.Random(15)
            for processor in processors(frame):
                numbers = [draw.randrange(many) for _ in range(9)]
                state, beats = 0, []
                for number in numbers:
                    more, state = processor[1][state][number]
                    beats.append(more)
                self.assertEqual(read_events(frame, processor, 0, numbers), (tuple(beats), state))
                self.assertEqual(read_events(frame, processor, 0, tuple(numbers)), (tuple(beats), state))
                self.assertEqual(read_events(frame, processor, 0, ()), ((), 0))

    def test_steps_that_no_datum_has(self):
        frame = (2, 1, 0, (XOR,), 2)
        processor = ((3,), (tuple((number + 1, 0) for number in range(11)),))
        step = (("fork", 0), (("wrong op", 0, 0, 1), ("wrong op", 0, 1, 0)))
        self.assertEqual(read_step(frame, processor, 0, step), (6 + 9 + 10, 0))
        self.assertEqual(read_step(frame, processor, 0, (("op", 0, 0, 1), ())), (2, 0))

    def test_wrong_steps(self):
        processor = ((3,), (((1, 0),) * len(listed_events(CELLS)),))
        fork, wrong = ("fork", 0), ("wrong op", 0, 0, 0)
        for step in (
                None, 0, (), fork, (fork,), [fork, ()], (fork, []), (fork, (), ()), (fork, (wrong,) * 3), (fork, [wrong]),
                (fork, (fork,)), (fork, (("op", 0, 0, 0),)), (fork, (wrong, None)), (wrong, ()), (("fence",), (wrong,)),
                (("op", 0, 0, 0), (wrong,)), (("fork", False), ()), (("op", 0, 0, 2), ()), (fork, None), (fork, wrong),
                (fork, (("wrong load", 0, True),)), (("fence",), None), (("fence",), [])):
            self.assertEqual(outcome(read_step, CELLS, processor, 0, step), (InvalidEvents, -1), step)
        self.assertEqual(outcome(read_step, CELLS, processor, 0, (fork, (wrong,) * 2)), ("told", (3, 0)))

    def test_wrong_numbers(self):
        processor = ((3,), (((1, 0),) * 3,))
        for value in (None, 0, "0", True):
            self.assertEqual(outcome(read_events, SMALL, processor, 0, value), (InvalidEvents, -1))
        for wrong in (3, -1, True, None, "0", HUGE, (0,), ("fence",)):
            self.assertEqual(outcome(read_events, SMALL, processor, 0, [0, 2, wrong, None]), (InvalidEvents, 2), wrong)

    def test_any_values(self):
        good, processor = SMALL, ((0,), (((1, 0),) * 3,))
        wrong = {0: (None, (InvalidFrame, -1)), 1: (((4,), (0,)), (InvalidProcessor, 0))}
        try_wrong(self, need_processor, (good, processor), {1: InvalidProcessor})
        for function in (frame_events, events_many):
            try_wrong(self, function, (good,), {0: InvalidFrame})
        try_wrong(self, event_number, (good, ("fence",)), {0: InvalidFrame, 1: InvalidEvents})
        try_order(self, event_number, (good, ("fence",)), {0: wrong[0], 1: ([], (InvalidEvents, -1))})
        views = (good, processor, 0, (), (0,))
        states = {1: InvalidProcessor, 2: InvalidIndex}
        try_wrong(self, view_from, views, states | {3: InvalidProgram, 4: InvalidDatum})
        index = {2: (1, (InvalidIndex, -1))}
        try_order(self, view_from, views, wrong | index | {
            3: ([], (InvalidProgram, -1)), 4: ((2,), (InvalidDatum, -1))})
        short = views[:2] + views[3:]
        try_wrong(self, view_of, short, {1: InvalidProcessor, 2: InvalidProgram, 3: InvalidDatum})
        try_order(self, view_of, short, wrong | {2: ((0,), (InvalidProgram, 0)), 3: ([0], (InvalidDatum, -1))})
        for function, right in ((read_step, (("fence",), ())), (read_events, ())):
            try_wrong(self, function, views[:3] + (right,), states | {3: InvalidEvents})
            try_order(self, function, views[:3] + (right,), wrong | index | {3: (None, (InvalidEvents, -1))})
        for value in ANY:
            if value != 0 or isinstance(value, bool):
                self.assertEqual(outcome(view_from, good, processor, value, (), (0,)), (InvalidIndex, -1), value)


if __name__ == "__main__":
    unittest.main()
