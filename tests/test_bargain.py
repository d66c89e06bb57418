"""[33], [34]: the loudest processors, processors that part two data."""

import itertools
import random
import unittest

from leastpromise.bargain import is_loudest, loudest, parting_processor
from leastpromise.court import court_paper, is_kept
from leastpromise.errors import (
    InvalidDatum, InvalidFrame, InvalidLot, InvalidProcessor, InvalidProgram, Refused)
from leastpromise.events import frame_events, need_processor, read_step, view_of
from leastpromise.leaks import least_promises
from leastpromise.processors import put_beside
from leastpromise.runs import run_steps, trace_of
from tests.samples import (
    AND, ANY, SUM3, XOR, data_of, is_tupled, kind_processor, outcome, some_programs, try_order, try_wrong)
from tests.slow import SlowCourt, slow_agree

FRAMES = [
    (2, 1, 0, (), 0), (2, 1, 0, (AND,), 1), (2, 2, 0, (XOR,), 2), (2, 2, 0, (AND, XOR), 1), (2, 1, 2, (AND,), 1),
    (2, 2, 2, (XOR,), 1), (2, 1, 2, (XOR,), 2), (3, 1, 0, (SUM3,), 2), (3, 2, 0, (SUM3,), 1), (2, 2, 2, (XOR,), 2)]
LOTS = [(), (0,), (1, 7), (2, 4), (6,), (6, 7), (8,), (3, 5, 9), (0, 1, 2, 4, 6, 8), tuple(range(10))]


def first_unlike(one, other):
    for at, (near, far) in enumerate(itertools.zip_longest(one, other)):
        if near != far:
            return at
    return None


def ways_of(frame, datum):
    """The wrong ways that forks may have on a datum."""
    rows = [("op",) + rest for rest in itertools.product(range(len(frame[3])), *[range(frame[1])] * 3)]
    if frame[2]:
        rows += [("load",) + rest for rest in itertools.product(range(frame[1]), repeat=2)]
    for many in range(frame[4] + 1):
        yield from itertools.product(rows, repeat=many)


def is_loudest_slowly(frame, processor, lot):
    """By all flat rows, and all two wrong ways of forks of which both go unlike sides."""
    court = SlowCourt(frame, processor, lot)
    told = court.least()
    if told[0] == "broken":
        return False
    taken = {}

    def takes(datum, state, on, side):
        if (datum, state, on, side) not in taken:
            beats = set()
            for way in ways_of(frame, datum):
                step = run_steps(frame, (("fork", on) + ((), way)[::1 - 2 * side],), datum)[0]
                beats.add(read_step(frame, processor, state, step)[0])
            taken[(datum, state, on, side)] = beats
        return taken[(datum, state, on, side)]

    for (one, state), (other, further) in told[1]:
        for row, passes in court.passes.items():
            if one in passes and other in passes and not (
                    row[0] == "fork" and passes[one][0][0] != passes[other][0][0]):
                if not slow_agree(passes[one][0], passes[other][0], lot):
                    steps = (state, passes[one][0]), (further, passes[other][0])
                    near, far = [read_step(frame, processor, begin, step)[0] for begin, step in steps]
                    if near == far:
                        return False
        for on in range(frame[1]):
            sides = [1 if datum[on] else 0 for datum in (one, other)]
            if sides[0] != sides[1] and takes(one, state, on, sides[0]) & takes(other, further, on, sides[1]):
                return False
    return True


class LoudestTest(unittest.TestCase):
    def test_views_are_unlike_where_traces_are(self):
        for frame in FRAMES:
            for lot in LOTS[::2] + LOTS[5:6]:
                processor = loudest(frame, lot)
                need_processor(frame, processor)
                self.assertTrue(is_tupled(processor))
                for program in some_programs(frame, 4, seed=lot):
                    data = data_of(frame)[::2]
                    views = {datum: view_of(frame, processor, program, datum) for datum in data}
                    traces = {datum: trace_of(frame, program, datum, lot) for datum in data}
                    for one, other in itertools.combinations(data, 2):
                        self.assertEqual(
                            first_unlike(views[one], views[other]), first_unlike(traces[one], traces[other]))

    def test_it_keeps_just_its_lot(self):
        for frame in FRAMES:
            for lot in LOTS:
                processor = loudest(frame, lot)
                self.assertIs(is_loudest(frame, processor, lot), True)
                self.assertIs(is_kept(frame, processor, lot), True)
                self.assertEqual(processor, loudest(frame, list(lot)))
        frame = (2, 2, 2, (XOR,), 1)
        for lot in LOTS:
            self.assertEqual(least_promises(frame, loudest(frame, lot)), (lot,))

    def test_lots_of_atoms_that_no_event_has(self):
        frame = (2, 2, 0, (XOR,), 1)
        self.assertIs(is_loudest(frame, loudest(frame, (0,)), (0, 2, 3, 9)), True)
        self.assertIs(is_loudest(frame, loudest(frame, (0,)), ()), False)
        self.assertIs(is_loudest(frame, loudest(frame, (0,)), (0, 1)), False)
        self.assertIs(is_loudest(frame, loudest(frame, (6,)), (0,)), False)

    def test_against_all_rows(self):
        seen = []
        for frame in FRAMES[:5] + FRAMES[7:8]:
            draw = random.Random(f"33 {frame}")
            for lot in LOTS[:2] + draw.sample(LOTS[2:], 2):
                for processor in self.near(draw, frame, lot):
                    expected = is_loudest_slowly(frame, processor, lot)
                    self.assertIs(is_loudest(frame, processor, lot), expected, (frame, processor, lot))
                    seen.append(expected)
        self.assertGreater(min(seen.count(True), seen.count(False)), 15)

    def near(self, draw, frame, lot):
        """Loudest processors, some changed a little, and others."""
        events = frame_events(frame)
        guesses, steps = loudest(frame, lot)
        yield guesses, steps
        for _ in range(2):
            state, number = draw.randrange(len(steps)), draw.randrange(len(events))
            row = list(steps[state])
            row[number] = (draw.choice((row[number][0] + 1, row[draw.randrange(len(events))][0])), row[number][1])
            yield guesses, steps[:state] + (tuple(row),) + steps[state + 1:]
        state = draw.randrange(len(guesses))
        yield guesses[:state] + (draw.randrange(3),) + guesses[state + 1:], steps
        yield put_beside(frame, (guesses, steps), ((0,), (((2, 0),) * len(events),)))
        # Twice as long, and behind each step another state that reads the same.
        many = len(guesses)
        twice = [tuple((2 * beats, later + many if at < many else later) for beats, later in steps[at % many])
                 for at in range(2 * many)]
        yield guesses * 2, tuple(twice)
        yield kind_processor(draw, events, 2)

    def test_sides_must_be_told(self):
        frame = (2, 1, 0, (AND,), 1)
        guesses, steps = loudest(frame, (6,))
        events = frame_events(frame)
        number = events.index(("fork", 1))
        for beats, expected in ((steps[0][number][0], True), (1, False), (2, False), (100, True)):
            rows = tuple(row[:number] + ((beats, 0),) + row[number + 1:] for row in steps)
            self.assertIs(is_loudest(frame, (guesses, rows), (6,)), expected, beats)
            self.assertIs(is_loudest_slowly(frame, (guesses, rows), (6,)), expected, beats)

    def test_sides_behind_wrong_ways(self):
        seen = []
        for frame in ((2, 1, 0, (XOR,), 1), (2, 1, 0, (XOR,), 2), (2, 2, 0, (AND,), 2), (2, 1, 2, (AND,), 2)):
            events = frame_events(frame)
            guesses, steps = loudest(frame, (6,))
            number = events.index(("fork", 1))
            for beats in range(1, 40 if frame[1:3] == (1, 0) else 12):
                rows = tuple(row[:number] + ((beats, 0),) + row[number + 1:] for row in steps)
                for some in (guesses, (1,) * len(guesses), (2,) * len(guesses)):
                    expected = is_loudest_slowly(frame, (some, rows), (6,))
                    self.assertIs(is_loudest(frame, (some, rows), (6,)), expected, (frame, some, beats))
                    seen.append(expected)
        self.assertGreater(min(seen.count(True), seen.count(False)), 15)

    def test_what_is_not_guessed_counts_for_nothing(self):
        frame = (2, 1, 0, (AND,), 1)
        row = tuple((2, 0) if event == ("fork", 1) else (1, 0) for event in frame_events(frame))
        for guess, lot, expected in ((0, (), True), (3, (), False), (1, (), True), (2, (), False), (0, (0,), False)):
            self.assertIs(is_loudest(frame, ((guess,), (row,)), lot), expected, (guess, lot))
            self.assertIs(is_loudest_slowly(frame, ((guess,), (row,)), lot), expected, (guess, lot))
        # Without a guess wrong events are not told, though traces have them.
        for frame in ((2, 2, 0, (AND,), 1), (2, 2, 0, (XOR,), 2)):
            for lot in ((), (6,), (0,), (0, 7)):
                guesses, steps = loudest(frame, lot)
                for some in itertools.product((0, 1, 2), repeat=1):
                    told = is_loudest(frame, (some * len(guesses), steps), lot)
                    self.assertIs(told, is_loudest_slowly(frame, (some * len(guesses), steps), lot), (frame, lot, some))

    def test_wrong_ways_of_two_rows(self):
        draw, seen = random.Random(36), []
        for frame in ((2, 2, 0, (XOR,), 2), (2, 1, 2, (AND,), 2)):
            events = frame_events(frame)
            wrong = [number for number, event in enumerate(events) if event[0].startswith("wrong")]
            for lot in ((6,), (7,), (6, 7), (9,), (8, 9), ()):
                guesses, steps = loudest(frame, lot)
                for _ in range(5):
                    state, number = draw.randrange(2), draw.choice(wrong)
                    row = list(steps[state])
                    row[number] = (draw.randrange(1, 8), row[number][1])
                    changed = (guesses, steps[:state] + (tuple(row),) + steps[state + 1:])
                    expected = is_loudest_slowly(frame, changed, lot)
                    self.assertIs(is_loudest(frame, changed, lot), expected, (frame, changed, lot))
                    seen.append(expected)
        self.assertGreater(min(seen.count(True), seen.count(False)), 3)

    def test_any_values(self):
        frame = (2, 1, 0, (), 0)
        good = (frame, loudest(frame, ()), ())
        try_wrong(self, loudest, (frame, ()), {0: InvalidFrame, 1: InvalidLot})
        try_order(self, loudest, (frame, ()), {0: (None, (InvalidFrame, -1)), 1: ([10], (InvalidLot, 0))})
        try_wrong(self, is_loudest, good, {1: InvalidProcessor, 2: InvalidLot})
        try_order(self, is_loudest, good, {
            0: (None, (InvalidFrame, -1)), 1: (((4,), (0,)), (InvalidProcessor, 0)), 2: ([3, 3], (InvalidLot, 1))})


class PartingTest(unittest.TestCase):
    def test_each_two_with_unlike_traces(self):
        parted = 0
        for frame in FRAMES:
            for program in some_programs(frame, 8, seed=34):
                for lot in LOTS[1::3] + LOTS[-1:]:
                    for one, other in list(itertools.permutations(data_of(frame), 2))[::17]:
                        traces = [trace_of(frame, program, datum, lot) for datum in (one, other)]
                        told = outcome(parting_processor, frame, program, one, other, lot)
                        if traces[0] == traces[1]:
                            self.assertEqual(told, (Refused, "alike"))
                        elif first_unlike(*traces) > 50:
                            self.assertEqual(told, (Refused, "states"))
                        else:
                            parted += 1
                            self.check(frame, program, one, other, lot, told[1])
        self.assertGreater(parted, 300)

    def check(self, frame, program, one, other, lot, processor):
        need_processor(frame, processor)
        self.assertTrue(is_tupled(processor))
        self.assertTrue(is_kept(frame, processor, lot))
        self.assertNotEqual(view_of(frame, processor, program, one), view_of(frame, processor, program, other))

    def test_fifty_steps_ahead_and_one_more(self):
        frame = (2, 2, 2, (AND,), 3)
        wrong = (("op", 0, 0, 0, 0), ("op", 0, 0, 0, 0), ("load", 0, 1))
        last = ("fork", 0, (), wrong)
        one, other = (0, 0, 0, 0), (0, 1, 0, 0)
        for ahead, rows, lot in (
                (50, (("fence",),) * 50, (8,)), (50, (("fork", 0, (), wrong[:2] + (("op", 0, 0, 0, 0),)),) * 50, (8,)),
                (50, (("loop", 2, (("op", 0, 0, 0, 0),) * 25),), (8,)), (0, (), (2, 8)), (50, (("fence",),) * 50, range(10))):
            program = rows + (last,)
            self.assertEqual(first_unlike(*[trace_of(frame, program, datum, tuple(lot)) for datum in (one, other)]), ahead)
            self.check(frame, program, one, other, tuple(lot), parting_processor(frame, program, one, other, tuple(lot)))
            more = (("fence",),) * (51 - ahead) + program
            self.assertEqual(outcome(parting_processor, frame, more, one, other, tuple(lot)), (Refused, "states"))
            self.assertEqual(outcome(parting_processor, frame, more, one, other, (9,)), (Refused, "alike"))

    def test_one_view_on_every_processor_that_keeps_exactly_with_one_trace(self):
        draw = random.Random(35)
        frame = (2, 2, 0, (XOR,), 1)
        for processor in [kind_processor(draw, frame_events(frame), 2) for _ in range(6)]:
            for lot in LOTS[:7]:
                kept = is_kept(frame, processor, lot)
                for program in some_programs(frame, 6, seed=36):
                    for part in itertools.combinations(data_of(frame), 2):
                        traces = {trace_of(frame, program, datum, lot) for datum in part}
                        loud = {view_of(frame, loudest(frame, lot), program, datum) for datum in part}
                        self.assertEqual(len(loud), len(traces))
                        if kept and len(traces) == 1:
                            self.assertEqual(len({view_of(frame, processor, program, datum) for datum in part}), 1)
                paper = court_paper(frame, processor, lot)
                self.assertEqual(kept, paper[0] == "kept")

    def test_any_values(self):
        frame = (2, 1, 0, (AND,), 0)
        good = (frame, (("op", 0, 0, 0, 0),), (0,), (1,), (0,))
        try_order(self, parting_processor, good, {
            0: (None, (InvalidFrame, -1)), 1: ((0,), (InvalidProgram, 0)), 2: ([0], (InvalidDatum, 0)),
            3: (None, (InvalidDatum, 1)), 4: ([3, 3], (InvalidLot, 1))})
        self.assertEqual(outcome(parting_processor, *good[:4], ()), (Refused, "alike"))
        self.assertEqual(outcome(parting_processor, *good[:3], (0,), (0,)), (Refused, "alike"))
        errors = {1: InvalidProgram, 2: InvalidDatum, 3: InvalidDatum, 4: InvalidLot}
        for place, error in errors.items():
            for value in ANY:
                told = outcome(parting_processor, *good[:place], value, *good[place + 1:])
                self.assertIn(told[0], ("told", Refused, error), (place, value))


if __name__ == "__main__":
    unittest.main()
