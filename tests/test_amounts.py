"""[35], [36], [37]: any function of the trace, one guess, what a guess may hide."""

import itertools
import random
import unittest

from leastpromise.amounts import (
    hidden_guess, looks_alone, most_views, shown_processor, single_processor, single_views)
from leastpromise.bargain import loudest
from leastpromise.court import is_kept
from leastpromise.errors import (
    InvalidDatum, InvalidFrame, InvalidLot, InvalidParts, InvalidProcessor, InvalidProgram, Refused)
from leastpromise.events import frame_events, need_processor, view_of
from leastpromise.programs import need_frame, need_program
from leastpromise.runs import run_steps, trace_of
from tests.samples import (
    AND, ANY, HUGE, SUM3, XOR, data_of, is_tupled, kind_processor, outcome, some_programs, try_order, try_wrong,
    with_part)

FRAMES = [
    (2, 1, 0, (AND,), 1), (2, 2, 0, (XOR,), 1), (2, 2, 0, (AND, XOR), 2), (2, 1, 2, (AND,), 1), (2, 2, 2, (XOR,), 1),
    (3, 1, 0, (SUM3,), 2), (3, 2, 0, (SUM3,), 1), (2, 2, 0, (), 1)]
LOTS = [(), (0,), (1, 7), (6,), (6, 7), (2, 4, 8), (0, 1, 2, 3, 6, 9), tuple(range(10))]
WRONG = (("op", 0, 0, 1, 1),)
FRAME, FORK = (2, 2, 0, (AND,), 1), (("fork", 0, WRONG, WRONG),)


def length_of(frame, program, data):
    """How many events, right and wrong, the longest run on these data has."""
    return max((sum(1 + len(wrong) for _, wrong in run_steps(frame, program, datum)) for datum in data), default=0)


def sum_of(frame, processor, program, datum):
    return sum(view_of(frame, processor, program, datum))


def seen_of(event, lot):
    first = {"op": 0, "load": 2, "store": 4, "wrong op": 6, "wrong load": 8}.get(event[0])
    if first is None:
        return event
    kind = event[:2] if event[0].endswith("op") else event[:1]
    return kind + tuple(event[at - 2] if first + at in lot else None for at in (0, 1))


def slow_looks_alone(frame, processor, lot):
    for row in processor[1]:
        for (event, read), (other, more) in itertools.combinations(zip(frame_events(frame), row), 2):
            if seen_of(event, lot) == seen_of(other, lot) and read != more:
                return False
    return True


def lonely_processor(draw, frame, lot, states, guesses=3):
    """Some processor that looks at the lot alone, and guesses one side at most."""
    rows = []
    for _ in range(states):
        reads = {}
        rows.append(tuple(
            reads.setdefault(seen_of(event, lot), (draw.randrange(1, 30), draw.randrange(states)))
            for event in frame_events(frame)))
    return tuple(draw.randrange(guesses) for _ in range(states)), tuple(rows)


def slow_single(frame, program, data, lot):
    """The most views, by trying all guesses wherever data read alike so far come to a fork."""
    runs = {datum: run_steps(frame, program, datum) for datum in data}

    def groups(group, at):
        """For each choice of guesses how many parts there are at the end."""
        steps = {datum: runs[datum][at:at + 1] for datum in group}
        if all(step == () for step in steps.values()):
            return {1}
        told = set()
        for guess in (0, 1, 2):
            parts = {}
            for datum in group:
                event, wrong = steps[datum][0]
                read = tuple(seen_of(part, lot) for part in wrong) if event[0] == "fork" and guess == 2 - event[1] else ()
                parts.setdefault(read + (seen_of(event, lot),), []).append(datum)
            sums = {0}
            for part in parts.values():
                sums = {one + other for one in sums for other in groups(part, at + 1)}
            told |= sums
        return told

    return max(groups(list(data), 0)) if data else 0


class ShownTest(unittest.TestCase):
    def test_sums_are_alike_just_within_parts(self):
        shown = 0
        for frame in FRAMES:
            draw = random.Random(f"35 {frame}")
            for program in some_programs(frame, 10, most=3, depth=2, seed=35):
                lot = draw.choice(LOTS)
                data = draw.sample(data_of(frame), min(len(data_of(frame)), draw.randrange(1, 7)))
                traces = {}
                for datum in data:
                    traces.setdefault(trace_of(frame, program, datum, lot), []).append(datum)
                parts = [[] for _ in range(3)]
                for part in traces.values():
                    draw.choice(parts).extend(part)
                parts = [part for part in parts if part]
                told = outcome(shown_processor, frame, program, lot, parts)
                if len(data) * length_of(frame, program, data) > 59:
                    self.assertEqual(told, (Refused, "states"))
                    continue
                shown += 1
                self.check(frame, program, lot, parts, told[1])
        self.assertGreater(shown, 45)

    def check(self, frame, program, lot, parts, processor):
        need_processor(frame, processor)
        self.assertTrue(is_tupled(processor))
        self.assertTrue(is_kept(frame, processor, lot))
        sums = [{sum_of(frame, processor, program, datum) for datum in part} for part in parts]
        self.assertTrue(all(len(told) == 1 for told in sums), sums)
        self.assertEqual(len(set().union(*sums)), len(parts))

    def test_all_parts_of_four_data(self):
        data = [(0, 0), (0, 1), (1, 0), (1, 1)]
        for owners in itertools.product(range(4), repeat=4):
            parts = [[datum for datum, owner in zip(data, owners) if owner == part] for part in range(4)]
            parts = [part for part in parts if part]
            self.check(FRAME, FORK, (6,), parts, shown_processor(FRAME, FORK, [6], parts))
        self.check(FRAME, FORK, (), [[data[0], data[1]], [data[2]]],
            shown_processor(FRAME, FORK, (), ((data[0], data[1]), (data[2],))))

    def test_what_is_refused(self):
        data = [(0, 0), (0, 1), (1, 0), (1, 1)]
        self.assertEqual(outcome(shown_processor, FRAME, FORK, (), [[data[0]], [data[1]]]), (Refused, "trace"))
        self.assertEqual(outcome(shown_processor, FRAME, FORK, (0, 1), [[data[0]], data[2:], [data[1]]])[0], "told")
        for fences, many, expected in ((59, 1, "told"), (60, 1, Refused), (29, 2, "told"), (30, 2, Refused),
                (14, 4, "told"), (15, 4, Refused)):
            told = outcome(shown_processor, FRAME, (("fence",),) * fences, (), [data[:many]])
            self.assertEqual(told[0], expected, (fences, many))
            if expected == "told":
                self.check(FRAME, (("fence",),) * fences, (), [data[:many]], told[1])
        # Wrong events count, and those of the longest run for all.
        wrong = (("fork", 0, (), WRONG),) * 20
        self.assertEqual(length_of(FRAME, wrong, [data[0]]), 40)
        self.assertEqual(outcome(shown_processor, FRAME, wrong, (), [[data[0]]])[0], "told")
        self.assertEqual(outcome(shown_processor, FRAME, wrong[:15], (), [[data[0]], [data[3]]]), (Refused, "states"))
        self.assertEqual(outcome(shown_processor, FRAME, wrong[:14], (), [[data[0]], [data[3]]])[0], "told")
        # Unlike parts are told ahead of too many states.
        self.assertEqual(outcome(shown_processor, FRAME, (("fence",),) * 60, (), [[data[0]], [data[1]]]),
            (Refused, "trace"))

    def test_no_parts_and_the_empty_program(self):
        for program, parts in (((), []), (FORK, ()), ((), [[(0, 0), (1, 1)]]), ((("loop", 0, FORK),), [[(0, 0)]])):
            self.check(FRAME, program, (), parts, shown_processor(FRAME, program, (), parts))
        self.assertEqual(outcome(shown_processor, FRAME, (), (), [[(0, 0)], [(1, 1)]]), (Refused, "trace"))

    def test_wrong_parts(self):
        good = [[(0, 0)], [(1, 0), (1, 1)]]
        for parts, at in (
                (None, -1), (0, -1), ("", -1), ([[]], 0), ([[(0, 0)], []], 1), ([[(0, 0)], None], 1),
                ([[(0, 0)], [(0, 0)]], 1),
                ([[(0, 0), (0, 0)]], 0), ([[(0, 0)], [(1, 0), (0, 2)]], 1), ([[[0, 0]]], 0), ([[(0, False)]], 0),
                (((0, 0),), 0),
                ([[(0, 0)], [(1, 1)], [(0, 1), (0, 0)], 3], 2), ([(0, 0)], 0), ([[(0,)]], 0), ([[HUGE]], 0)):
            self.assertEqual(outcome(shown_processor, FRAME, FORK, (), parts), (InvalidParts, at), parts)
        self.assertEqual(shown_processor(FRAME, FORK, (6,), good),
            shown_processor(FRAME, FORK, [6], tuple(map(tuple, good))))
        for value in ANY:
            self.assertIn(outcome(shown_processor, FRAME, FORK, (6,), value)[0], (InvalidParts, "told"), value)
            self.assertIn(outcome(shown_processor, FRAME, FORK, (6,), [[(0, 0)], value])[0], (InvalidParts, "told"),
                value)
        try_order(self, shown_processor, (FRAME, FORK, (6,), good), {
            0: (None, (InvalidFrame, -1)), 1: ((0,), (InvalidProgram, 0)), 2: ([3, 3], (InvalidLot, 1)),
            3: ([[]], (InvalidParts, 0))})


class MostTest(unittest.TestCase):
    def test_as_many_as_traces(self):
        for frame in FRAMES:
            draw = random.Random(f"36 {frame}")
            for program in some_programs(frame, 6, seed=36):
                lot = draw.choice(LOTS)
                data = draw.sample(data_of(frame), draw.randrange(len(data_of(frame)) + 1))
                traces = {trace_of(frame, program, datum, lot) for datum in data}
                views = {view_of(frame, loudest(frame, lot), program, datum) for datum in data}
                self.assertEqual(most_views(frame, program, data, lot), len(traces))
                self.assertEqual(len(views), len(traces))
        self.assertEqual(most_views(FRAME, FORK, [], ()), 0)
        self.assertEqual(most_views(FRAME, (), data_of(FRAME), [0, 1]), 1)

    def test_the_printed_example(self):
        data = [(0, 0), (0, 1), (1, 0), (1, 1)]
        self.assertEqual((most_views(FRAME, FORK, data, [6]), single_views(FRAME, FORK, data, [6])), (4, 3))

    def test_any_values(self):
        good = (FRAME, FORK, ((0, 0),), (6,))
        for function in (most_views, single_views, single_processor):
            try_wrong(self, function, good, {1: InvalidProgram, 2: InvalidDatum, 3: InvalidLot})
            try_order(self, function, good, {
                0: (None, (InvalidFrame, -1)), 1: ((0,), (InvalidProgram, 0)), 2: ([(0, 0), (0, 0)], (InvalidDatum, 1)),
                3: ([3, 3], (InvalidLot, 1))})
            self.assertEqual(function(*good[:2], [(0, 0)], [6]), function(*good))


class SingleTest(unittest.TestCase):
    def test_looking_alone(self):
        seen = []
        for frame in FRAMES:
            draw = random.Random(f"37 {frame}")
            for lot in LOTS:
                for processor in (
                        kind_processor(draw, frame_events(frame), 2, 0.2), loudest(frame, lot),
                        lonely_processor(draw, frame, lot, 2, 4)):
                    expected = slow_looks_alone(frame, processor, lot)
                    self.assertIs(looks_alone(frame, processor, lot), expected)
                    self.assertIs(looks_alone(frame, processor, list(lot)), expected)
                    if expected:
                        self.assertTrue(is_kept(frame, processor, lot))
                    seen.append(expected)
        self.assertGreater(min(seen.count(True), seen.count(False)), 20)

    def test_events_by_beats_and_by_states(self):
        frame = (2, 1, 0, (AND,), 0)
        row = ((1, 0),) * 7
        for number, read, lot, expected in (
                (2, (2, 0), (), False), (2, (2, 0), (0,), False), (2, (2, 0), (0, 1), True), (3, (1, 1), (1,), False),
                (4, (5, 1), (), True),
                (5, (5, 1), (), True), (2, (1, 1), (0, 1), True), (0, (1, 1), (0,), False)):
            processor = ((0, 3), (with_part(row, number, read), row))
            self.assertIs(looks_alone(frame, processor, lot), expected, (number, read, lot))

    def test_two_tables_are_told_apart(self):
        frame = (2, 1, 0, (AND, XOR), 0)
        row = tuple((1 + event[1] if event[0] == "op" else 1, 0) for event in frame_events(frame))
        self.assertIs(looks_alone(frame, ((0,), (row,)), ()), True)

    def test_the_most_views(self):
        lots = set()
        for frame in FRAMES:
            draw = random.Random(f"38 {frame}")
            forks = [FORK, FORK + FORK] * 5 if frame[1] > 1 and frame[3] else []
            for program in some_programs(frame, 40, most=4, depth=2, seed=38) + forks:
                lot = draw.choice(LOTS)
                data = draw.sample(data_of(frame), draw.randrange(min(len(data_of(frame)), 8) + 1))
                many = single_views(frame, program, data, lot)
                if all(len(run_steps(frame, program, datum)) < 7 for datum in data):
                    self.assertEqual(many, slow_single(frame, program, data, lot), (frame, program, data, lot))
                self.assertLessEqual(many, most_views(frame, program, data, lot))
                lots.add((many, most_views(frame, program, data, lot)))
                for _ in range(6):
                    processor = lonely_processor(draw, frame, lot, 3)
                    views = {view_of(frame, processor, program, datum) for datum in data}
                    self.assertLessEqual(len(views), many)
                self.check_processor(frame, program, data, lot, many)
        self.assertGreater(len(lots), 7)
        self.assertTrue(any(many < most for many, most in lots))

    def check_processor(self, frame, program, data, lot, many):
        told = outcome(single_processor, frame, program, data, lot)
        if len(data) * length_of(frame, program, data) > 59:
            self.assertEqual(told, (Refused, "states"))
            return
        need_processor(frame, told[1])
        self.assertTrue(is_tupled(told[1]))
        self.assertTrue(looks_alone(frame, told[1], lot))
        self.assertNotIn(3, told[1][0])
        self.assertEqual(len({sum_of(frame, told[1], program, datum) for datum in data}), many)

    def test_forks_one_in_another(self):
        frame = (2, 2, 0, (AND, XOR), 1)
        op = ("op", 1, 0, 1, 0)
        inner = (("fork", 1, (op,), (("op", 0, 1, 0, 0),)),)
        for program in (
                (("fork", 0, inner, inner),), (("fork", 0, (op,) + inner, WRONG + inner),), FORK + inner + FORK,
                (("loop", 3, FORK + (op,)),),
                (("fork", 0, (), (op,)), ("fork", 1, (op,), ()))):
            for lot in ((6,), (7,), (6, 7), (), (0,), (0, 6)):
                data = data_of(frame)
                many = single_views(frame, program, data, lot)
                if all(len(run_steps(frame, program, datum)) < 9 for datum in data):
                    self.assertEqual(many, slow_single(frame, program, data, lot), (program, lot))
                self.check_processor(frame, program, data, lot, many)

    def test_many_rows(self):
        frame = (2, 2, 0, (AND,), 1)
        program = (("loop", 4, (("loop", 4, (("fork", 0, WRONG, ()),)),)), ("fence",))
        few = (("loop", 4, (("fork", 0, WRONG, ()),)), ("fence",))
        self.assertEqual(slow_single(frame, few, data_of(frame), (6,)), 4)
        self.assertEqual(single_views(frame, program, data_of(frame), (6,)), 4)
        fences = (("fence",),) * 80
        self.assertEqual(single_views(frame, fences + FORK, data_of(frame), (6,)), 3)
        self.assertEqual(outcome(single_processor, frame, fences, [(0, 0)], ()), (Refused, "states"))

    def test_no_data_and_the_empty_program(self):
        for program, data, many in ((FORK, [], 0), ((), [], 0), ((), [(0, 0), (1, 1)], 1), (FORK, [(0, 1)], 1)):
            self.assertEqual(single_views(FRAME, program, data, (6,)), many)
            self.check_processor(FRAME, program, data, (6,), many)

    def test_any_values(self):
        frame = (2, 1, 0, (), 0)
        good = (frame, ((0,), (((1, 0),) * 3,)), ())
        try_wrong(self, looks_alone, good, {1: InvalidProcessor, 2: InvalidLot})
        try_order(self, looks_alone, good, {
            0: (None, (InvalidFrame, -1)), 1: (((4,), (0,)), (InvalidProcessor, 0)), 2: ([3, 3], (InvalidLot, 1))})


class HiddenTest(unittest.TestCase):
    def test_more_than_one_guess_shows(self):
        frame, processor, program, lot = hidden_guess()
        need_frame(frame)
        need_processor(frame, processor)
        need_program(frame, program)
        self.assertTrue(is_tupled(hidden_guess()))
        self.assertTrue(is_kept(frame, processor, lot))
        self.assertNotIn(3, processor[0])
        self.assertFalse(looks_alone(frame, processor, lot))
        data = data_of(frame)
        views = {view_of(frame, processor, program, datum) for datum in data}
        self.assertGreater(len(views), single_views(frame, program, data, lot))
        self.assertLessEqual(len(views), most_views(frame, program, data, lot))
        self.assertEqual(hidden_guess(), hidden_guess())


if __name__ == "__main__":
    unittest.main()
