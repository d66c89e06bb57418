"""[45]: values in rich frames."""

import itertools
import random
import unittest

from leastpromise.errors import InvalidFrame, InvalidProcessor, Refused
from leastpromise.events import events_many, frame_events, read_step, view_of
from leastpromise.leaks import least_leaks, least_promises
from leastpromise.runs import unlike_atoms
from leastpromise.values import read_atoms, states_hold, states_paper
from tests.samples import (
    AND, SUM3, XOR, is_tupled, kind_processor, outcome, quiet_processor, try_judge, try_order, try_wrong)
from tests.test_closed import slow_steps

RICH = [(2, 3, 0, (AND,), 0), (2, 3, 0, (XOR,), 1), (2, 4, 0, (AND, XOR), 1), (2, 3, 0, (AND,), 2), (3, 4, 0, (SUM3,), 1),
        (2, 3, 0, (), 2), (3, 4, 0, (SUM3, (0, 0, 0, 0, 1, 1, 0, 1, 2)), 0)]
FRAME = (2, 3, 0, ((0, 1, 1, 0),), 0)
SLOW = ((0,), (((1, 0), (1, 0), (2, 0), (2, 0), (1, 0), (1, 0), (1, 0)),))


def processors(frame, many=5, seed=0):
    draw = random.Random(f"{seed} {frame}")
    events = frame_events(frame)
    told = [kind_processor(draw, events, draw.randrange(1, 5), 0.25) for _ in range(many)]
    return told + [quiet_processor(draw, len(events), draw.randrange(1, 5), 0.02) for _ in range(many)]


class SlowValues:
    """What [45] says, step by step."""

    def __init__(self, frame, processor):
        self.frame, self.many = frame, len(processor[0])
        self.steps = list(slow_steps(frame))
        self.read = [[read_step(frame, processor, state, step) for step in self.steps] for state in range(self.many)]
        self.comes = [0]
        for state in self.comes:
            self.comes += [later for later in dict(map(reversed, self.read[state])) if later not in self.comes]
        self.parted = {(one, other): False for one in range(self.many) for other in range(self.many)}
        change = True
        while change:
            change = False
            for pair in self.parted:
                if not self.parted[pair] and self.do_part(pair):
                    self.parted[pair] = change = True

    def do_part(self, pair):
        return any(
            beats != more or self.parted[(later, last)]
            for (beats, later), (more, last) in zip(self.read[pair[0]], self.read[pair[1]]))

    def changes(self):
        """(atom, step, step) of all two steps unlike in just one value, by number."""
        for one, other in itertools.combinations(range(len(self.steps)), 2):
            reads, others = [(step[0],) + step[1] for step in (self.steps[one], self.steps[other])]
            if len(reads) != len(others) or any(len(near) != len(far) for near, far in zip(reads, others)):
                continue
            unlike = [
                (near[0], part - len(near)) for near, far in zip(reads, others) for part in range(len(near))
                if near[part] != far[part]]
            if len(unlike) == 1 and unlike[0][0] in ("op", "wrong op") and unlike[0][1] in (-2, -1):
                yield {"op": 0, "wrong op": 6}[unlike[0][0]] + unlike[0][1] + 2, one, other

    def atoms(self):
        found = set()
        for atom, one, other in self.changes():
            for state in self.comes:
                (beats, later), (more, last) = self.read[state][one], self.read[state][other]
                if beats != more or self.parted[(later, last)]:
                    found.add(atom)
        return tuple(sorted(found))

    def parts(self):
        told = {tuple(other for other in sorted(self.comes) if not self.parted[(state, other)]) for state in self.comes}
        return tuple(sorted(told))

    def is_right(self, lot, parts):
        """Whether steps do alike from states of one part, also those unlike at one atom outside the lot."""
        owner = {state: part for part in parts for state in part}
        seen = lambda state, step: (self.read[state][step][0], owner.get(self.read[state][step][1]))
        for part in parts:
            for step in range(len(self.steps)):
                told = {seen(state, step) for state in part}
                if len(told) > 1 or any(where is None for _, where in told):
                    return False
            for atom, one, other in self.changes():
                if atom not in lot and any(seen(near, one) != seen(far, other) for near in part for far in part):
                    return False
        return True


def is_telling(frame, processor, atom, told):
    program, one, other = told
    return unlike_atoms(frame, program, one, other) == ((atom,), False) and (
        view_of(frame, processor, program, one) != view_of(frame, processor, program, other))


class ValuesTest(unittest.TestCase):
    def test_the_printed_example(self):
        self.assertEqual(read_atoms(FRAME, SLOW), (0,))

    def test_against_all_steps(self):
        seen = set()
        for frame in RICH:
            for processor in processors(frame, 4 if frame[0] == 2 else 2):
                slow = SlowValues(frame, processor)
                lot, parts, tellings = paper = states_paper(frame, processor)
                self.assertTrue(is_tupled(paper))
                self.assertEqual(read_atoms(frame, processor), lot)
                self.assertEqual((lot, parts), (slow.atoms(), slow.parts()))
                self.assertEqual(len(tellings), len(lot))
                for atom, told in zip(lot, tellings):
                    self.assertTrue(is_telling(frame, processor, atom, told), (frame, processor, atom, told))
                self.assertIs(states_hold(frame, processor, paper), True)
                seen.add(lot)
        self.assertGreater(len(seen), 8)

    def test_the_one_least_promise(self):
        for frame in RICH[:4] + RICH[5:6]:
            for processor in processors(frame, 3, seed=1):
                lot = read_atoms(frame, processor)
                self.assertEqual(least_promises(frame, processor), (lot,))
                self.assertEqual(least_leaks(frame, processor), tuple((atom,) for atom in lot))

    def test_whatever_the_tables_tell(self):
        for processor in processors(RICH[1], 4, seed=2):
            told = {
                read_atoms((2, many, 0, (table,), 1), processor) for many in (3, 4)
                for table in itertools.product((0, 1), repeat=4)}
            self.assertEqual(len(told), 1)

    def test_states_that_never_come(self):
        loud = tuple((event[2] + 1, 1) if event[0] == "op" else (1, 1) for event in frame_events(FRAME))
        still = ((1, 0),) * events_many(FRAME)
        self.assertEqual(states_paper(FRAME, ((0, 0), (still, loud))), ((), ((0,),), ()))
        # A wrong event leads to the loud state, but no step of a guess that reads it does: it doesn't come.
        frame = FRAME[:4] + (1,)
        events = frame_events(frame)
        row = tuple((1, 1) if event[0] == "wrong op" else (1, 0) for event in events)
        back = tuple((event[2] + 1, 0) if event[0] == "op" else (1, 0) for event in events)
        self.assertEqual(states_paper(frame, ((3, 0), (row, back))), ((), ((0,),), ()))
        kept = tuple((beats, 1 if event[0] == "fork" else 0) for event, (beats, _) in zip(events, back))
        self.assertEqual(read_atoms(frame, ((3, 0), (row, kept))), (0,))
        self.assertEqual(read_atoms(frame, ((0, 0), (row, kept))), ())

    def test_late_tellings(self):
        # What is read at first is told three steps later alone.
        events = frame_events(FRAME)
        first = tuple((1, 1) if event[:3] == ("op", 0, 1) else (1, 0) for event in events)
        rows = (first, ((1, 2),) * len(events), ((1, 3),) * len(events), ((2, 3),) * len(events))
        lot, parts, tellings = paper = states_paper(FRAME, ((0,) * 4, rows))
        self.assertEqual((lot, parts), ((0,), ((0,), (1,), (2,), (3,))))
        self.assertTrue(is_telling(FRAME, ((0,) * 4, rows), 0, tellings[0]))
        self.assertGreaterEqual(len(tellings[0][0]), 4)
        self.assertIs(states_hold(FRAME, ((0,) * 4, rows), paper), True)


class StatesJudgeTest(unittest.TestCase):
    def test_any_parts(self):
        draw = random.Random(46)
        for frame in RICH[:4]:
            for processor in processors(frame, 3, seed=3):
                slow = SlowValues(frame, processor)
                lot, parts, tellings = states_paper(frame, processor)
                states = list(range(slow.many))
                for _ in range(12):
                    owners = [draw.randrange(-1, 3) for _ in states]
                    some = [tuple(state for state in states if owners[state] == number) for number in range(3)]
                    draw.shuffle(some)
                    some = tuple(some)
                    expected = any(0 in part for part in some) and slow.is_right(lot, some)
                    self.assertIs(states_hold(frame, processor, (lot, some, tellings)), expected)
                self.assertIs(states_hold(frame, processor, (lot, parts[::-1] + ((), ()), tellings)), True)
                for at, atom in enumerate(lot):
                    less = (lot[:at] + lot[at + 1:], parts, tellings[:at] + tellings[at + 1:])
                    self.assertIs(states_hold(frame, processor, less), False)

    def test_greater_lots(self):
        # The atoms that are not read have nothing that tells them.
        self.assertIs(states_hold(FRAME, SLOW, ((0,), ((0,),), states_paper(FRAME, SLOW)[2])), True)
        telling = states_paper(FRAME, SLOW)[2][0]
        for lot in ((), (1,), (0, 1), (0, 2), (6,)):
            self.assertIs(states_hold(FRAME, SLOW, (lot, ((0,),), (telling,) * len(lot))), False)
        self.assertIs(states_hold(FRAME, SLOW, ((0,), ((0,),), ())), False)
        self.assertIs(states_hold(FRAME, SLOW, ((0,), ((0,),), (telling, telling))), False)

    def test_any_tellings(self):
        op, loop = ("op", 0, 2, 2, 1), ("loop", 2, (("fence",),))
        for program, one, other, expected in (
                ((op,), (0, 1, 0), (0, 1, 1), True), ((op,), (0, 1, 1), (0, 1, 0), True),
                ((loop, op, loop), (0, 1, 0), (0, 1, 1), True), ((), (0, 1, 0), (0, 1, 1), False),
                ((("op", 0, 2, 2, 2),), (0, 1, 0), (0, 1, 1), False), ((op,), (0, 1, 0), (0, 0, 1), False),
                ((op,), (0, 0, 0), (0, 1, 0), False), ((("fork", 2, (), ()), op), (0, 1, 0), (0, 1, 1), False)):
            told = ((0,), ((0,),), ((program, one, other),))
            self.assertIs(states_hold(FRAME, SLOW, told), expected, told)

    def test_changed_papers(self):
        judge = lambda value: states_hold(FRAME, SLOW, value)
        try_judge(self, judge, states_paper(FRAME, SLOW))
        row = ((1, 1),) * 7
        processor = ((0, 0), (row, row))
        two = states_paper(FRAME, processor)
        self.assertEqual(two, ((), ((0, 1),), ()))

        def expected(value):
            if not isinstance(value, tuple) or len(value) != 3 or value[0] != () or value[2] != ():
                return False
            parts = value[1]
            return isinstance(parts, tuple) and parts in (((0, 1),), ((0, 1), ()), ((), (0, 1)))

        try_judge(self, lambda value: states_hold(FRAME, processor, value), two, expected)
        for parts, told in (
                (((0,), (1,)), True), (((1,), (0,)), True), (((1, 0),), False), (((0, 1), (1,)), False), (((1,),), False),
                (((0,),), False), (((0, 1, 2),), False), (((0, 1), (2,)), False), (((0, 0, 1),), False), ((0, 1), False),
                (((), (), (0, 1), ()), True), ((), False), (((True,), (0,)), False)):
            self.assertIs(states_hold(FRAME, processor, ((), parts, ())), told, parts)

    def test_any_values(self):
        good = (FRAME, SLOW)
        for function in (read_atoms, states_paper):
            self.assertEqual(outcome(function, None, None), (InvalidFrame, -1))
            try_wrong(self, function, good, {1: InvalidProcessor})
            for frame in ((2, 2, 0, (XOR,), 0), (2, 1, 0, (), 0), (3, 3, 0, (), 1), (2, 3, 2, (), 0), (2, 4, 2, (AND,), 1)):
                self.assertEqual(outcome(function, frame, None), (Refused, "frame"), frame)
                self.assertEqual(outcome(states_hold, frame, None, None), (Refused, "frame"), frame)
            self.assertEqual(outcome(function, (2, 2, 1, (), 0), None), (InvalidFrame, 2))
        try_order(self, read_atoms, good, {0: ([], (InvalidFrame, -1)), 1: (((4,), (0,)), (InvalidProcessor, 0))})
        try_wrong(self, states_hold, good + (None,), {1: InvalidProcessor})


if __name__ == "__main__":
    unittest.main()
