"""[22], [23], [24]: leaks, least leaks and least promises, one paper for both lists."""

import itertools
import random
import unittest

from leastpromise.court import court_paper, is_kept
from leastpromise.crossings import are_crossings, crossings
from leastpromise.errors import InvalidFrame, InvalidLot, InvalidProcessor
from leastpromise.events import events_many, frame_events, view_of
from leastpromise.leaks import both_hold, both_paper, leak_holds, leak_within, least_leaks, least_promises
from leastpromise.runs import unlike_atoms
from tests.samples import (
    AND, HUGE, XOR, data_of, is_tupled, kind_processor, outcome, quiet_processor, some_programs, try_judge, try_order,
    try_wrong)
from tests.slow import SlowCourt

SMALL = (2, 1, 0, (), 0)
UP = ((0,), (((1, 0), (1, 0), (2, 0)),))
FRAME = (2, 2, 0, (XOR,), 1)
FRAMES = [
    (2, 1, 0, (AND,), 1), FRAME, (2, 2, 0, (AND, XOR), 0), (2, 1, 2, (AND,), 1), (2, 1, 2, (), 0), (2, 2, 2, (XOR,), 1),
    (2, 2, 2, (), 0)]
ONES = ((0,), (tuple((2, 0) if event[:3] == ("op", 0, 1) else (1, 0) for event in frame_events(FRAME)),))


def processors(frame, many=5, seed=0):
    draw = random.Random(f"{seed} {frame}")
    events = frame_events(frame)
    told = [kind_processor(draw, events, draw.randrange(1, 4), 0.2) for _ in range(many)]
    return told + [quiet_processor(draw, len(events), draw.randrange(1, 4), 0.03) for _ in range(many)]


def without(lot):
    return tuple(atom for atom in range(10) if atom not in lot)


def shows(frame, processor, lot, told):
    program, one, other = told
    return unlike_atoms(frame, program, one, other) == (tuple(lot), False) and (
        view_of(frame, processor, program, one) != view_of(frame, processor, program, other))


def slow_promises(frame, processor):
    """All least promises: of lots of atoms that the frame has, those kept by all flat rows."""
    atoms = ([0, 1] if frame[3] else []) + ([2, 3, 4, 5] if frame[2] else [])
    if frame[4]:
        atoms += ([6, 7] if frame[3] else []) + ([8, 9] if frame[2] else [])
    kept = []
    for many in range(len(atoms) + 1):
        for lot in itertools.combinations(atoms, many):
            if not any(set(less) <= set(lot) for less in kept):
                if SlowCourt(frame, processor, lot).least()[0] == "kept":
                    kept.append(lot)
    return tuple(kept)


class LeakTest(unittest.TestCase):
    def test_by_hand(self):
        op = ("op", 0, 0, 0, 1)
        for lot, program, one, other, expected in (
                ((0,), (op,), (0, 0), (1, 0), True), ((0,), (op,), (1, 0), (0, 0), True), ((), (op,), (0, 0), (1, 0), False),
                ((0, 1), (op,), (0, 0), (1, 0), False), ((0, 1), (op,), (0, 1), (1, 0), True), ((0,), (), (0, 0), (1, 0), False),
                ((1,), (op,), (0, 0), (0, 1), False), ((0,), (op,), (0, 0), (0, 0), False),
                ((0,), (("fence",), op, ("fence",)), (0, 0), (1, 0), True),
                ((0,), (("fork", 0, (), ()), op), (0, 0), (1, 0), False), ((0,), (("loop", 2, (op,)),), (0, 0), (1, 0), True),
                ((0, 6), (("fork", 1, (), (op,)), op), (0, 0), (1, 0), True),
                ((0,), (("fork", 1, (), (op,)), op), (0, 0), (1, 0), False)):
            self.assertIs(leak_holds(FRAME, ONES, lot, (program, one, other)), expected, (lot, program, one, other))
            self.assertIs(leak_holds(FRAME, ONES, list(lot), (program, one, other)), expected)

    def test_what_any_programs_show(self):
        for frame in FRAMES[:4]:
            for processor in processors(frame, 2):
                leaks = least_leaks(frame, processor)
                for program in some_programs(frame, 10, seed=22):
                    for one, other in list(itertools.combinations(data_of(frame), 2))[::5]:
                        atoms, sides = unlike_atoms(frame, program, one, other)
                        views = [view_of(frame, processor, program, datum) for datum in (one, other)]
                        expected = not sides and views[0] != views[1]
                        self.assertIs(leak_holds(frame, processor, atoms, (program, one, other)), expected)
                        if expected:
                            self.assertTrue(any(set(leak) <= set(atoms) for leak in leaks))

    def test_within(self):
        for frame in FRAMES:
            draw = random.Random(f"22 {frame}")
            for processor in processors(frame, 3, seed=1):
                for _ in range(6):
                    lot = tuple(atom for atom in range(10) if draw.random() < draw.choice((0.4, 0.9)))
                    told = leak_within(frame, processor, lot)
                    self.assertEqual(told is None, is_kept(frame, processor, without(lot)))
                    if told is None:
                        continue
                    self.assertTrue(is_tupled(told))
                    self.assertTrue(set(told[0]) <= set(lot))
                    self.assertTrue(shows(frame, processor, told[0], told[1:]))
                    self.assertTrue(leak_holds(frame, processor, told[0], told[1:]))
                    self.assertIn(told[0], least_leaks(frame, processor))
                    for atom in told[0]:
                        less = tuple(other for other in told[0] if other != atom)
                        self.assertIsNone(leak_within(frame, processor, less))
                self.assertIsNone(leak_within(frame, processor, []))

    def test_changed_leaks(self):
        judge = lambda value: leak_holds(FRAME, ONES, (0,), value)
        try_judge(self, judge, ((("op", 0, 0, 0, 1),), (0, 0), (1, 0)))

    def test_any_values(self):
        wrong = {
            0: (None, (InvalidFrame, -1)), 1: (((4,), (0,)), (InvalidProcessor, 0)), 2: ([3, 3], (InvalidLot, 1))}
        good = (SMALL, UP, ())
        try_wrong(self, leak_within, good, {1: InvalidProcessor, 2: InvalidLot})
        try_order(self, leak_within, good, wrong)
        try_wrong(self, leak_holds, good + (None,), {1: InvalidProcessor, 2: InvalidLot})
        try_order(self, leak_holds, good + (None,), wrong)
        for value in (10, -1, True, None, "0", HUGE, (0,), 3):
            self.assertEqual(outcome(leak_holds, SMALL, UP, [3, value], None), (InvalidLot, 1), value)


class LeastTest(unittest.TestCase):
    def test_the_printed_example(self):
        self.assertEqual((least_leaks(FRAME, ONES), least_promises(FRAME, ONES)), (((0,),), ((0,),)))

    def test_by_hand(self):
        still = ((0,), (((1, 0),) * events_many(FRAME),))
        self.assertEqual((least_leaks(FRAME, still), least_promises(FRAME, still)), ((), ((),)))
        # With one register both numbers of an operation are unlike together.
        frame = (2, 1) + FRAME[2:]
        self.assertEqual((least_leaks(frame, ONES), least_promises(frame, ONES)), (((0, 1),), ((0,), (1,))))
        self.assertEqual((least_leaks(SMALL, UP), least_promises(SMALL, UP)), ((), ((),)))

    def test_each_is_just_the_crossings_of_the_other(self):
        seen = set()
        for frame in FRAMES:
            for processor in processors(frame, 3, seed=2):
                leaks, promises = least_leaks(frame, processor), least_promises(frame, processor)
                self.assertTrue(is_tupled(leaks) and is_tupled(promises))
                self.assertTrue(are_crossings(10, leaks, promises))
                self.assertEqual((promises, leaks), (crossings(10, leaks), crossings(10, promises)))
                seen.add(leaks)
                for lot in promises:
                    self.assertTrue(is_kept(frame, processor, lot))
                    for atom in lot:
                        self.assertFalse(is_kept(frame, processor, [other for other in lot if other != atom]))
                for leak in leaks:
                    self.assertEqual(leak_within(frame, processor, leak)[0], leak)
                draw = random.Random(f"{frame} {leaks}")
                for _ in range(5):
                    lot = tuple(atom for atom in range(10) if draw.random() < 0.6)
                    kept = all(set(leak) & set(lot) for leak in leaks)
                    self.assertIs(is_kept(frame, processor, lot), kept)
        self.assertGreater(len(seen), 12)

    def test_against_all_lots(self):
        for frame in FRAMES[:3] + FRAMES[4:5]:
            for processor in processors(frame, 2, seed=3):
                self.assertEqual(least_promises(frame, processor), slow_promises(frame, processor))

    def test_more_registers_have_no_fewer_leaks(self):
        for frame in ((2, 1, 0, (AND,), 1), (2, 1, 2, (XOR,), 0)):
            for processor in processors(frame, 5, seed=4):
                leaks = least_leaks(frame, processor)
                self.assertTrue(all((0 in leak) == (1 in leak) for leak in leaks))
                for leak in leaks:
                    self.assertIsNotNone(leak_within((2, 2) + frame[2:], processor, leak))

    def test_any_values(self):
        good = (SMALL, UP)
        wrong = {0: (None, (InvalidFrame, -1)), 1: (((4,), (0,)), (InvalidProcessor, 0))}
        for function in (least_leaks, least_promises, both_paper):
            try_wrong(self, function, good, {1: InvalidProcessor})
            try_order(self, function, good, wrong)
        try_wrong(self, both_hold, good + (None,), {1: InvalidProcessor})
        try_order(self, both_hold, good + (None,), wrong)


class BothTest(unittest.TestCase):
    def test_what_is_told(self):
        for frame in FRAMES:
            for processor in processors(frame, 2, seed=5):
                leaks, promises = paper = both_paper(frame, processor)
                self.assertTrue(is_tupled(paper))
                self.assertEqual(tuple(lot for lot, _, _, _ in leaks), least_leaks(frame, processor))
                self.assertEqual(tuple(lot for lot, _ in promises), least_promises(frame, processor))
                for told in leaks:
                    self.assertTrue(shows(frame, processor, told[0], told[1:]))
                for lot, pairs in promises:
                    self.assertEqual(court_paper(frame, processor, lot), ("kept", pairs))
                self.assertIs(both_hold(frame, processor, paper), True)
                self.assertIs(both_hold(frame, processor, (leaks[::-1], promises[::-1])), True)
                for at in range(len(leaks)):
                    self.assertIs(both_hold(frame, processor, (leaks[:at] + leaks[at + 1:], promises)), False)
                    self.assertIs(both_hold(frame, processor, (leaks + leaks[at:at + 1], promises)), False)
                for at in range(len(promises)):
                    self.assertIs(both_hold(frame, processor, (leaks, promises[:at] + promises[at + 1:])), False)
                    self.assertIs(both_hold(frame, processor, (leaks, promises + promises[at:at + 1])), False)

    def test_lots_that_cross_but_do_not_hold(self):
        leaks, promises = both_paper(FRAME, ONES)
        pairs = promises[0][1]
        op = (("op", 0, 1, 0, 0),)
        self.assertIs(both_hold(FRAME, ONES, ((((0,), op, (0, 0), (1, 0)),), promises)), False)
        self.assertIs(both_hold(FRAME, ONES, (((leaks[0][0],) + ((("op", 0, 1, 0, 1),), (0, 0), (1, 0)),), promises)), True)
        # Lots that cross each other, of which neither a leak is shown nor a promise kept.
        self.assertIs(both_hold(FRAME, ONES, ((), (((), pairs),))), False)
        self.assertIs(both_hold(FRAME, ONES, ((((1,),) + leaks[0][1:],), (((1,), pairs),))), False)
        self.assertIs(both_hold(FRAME, ONES, ((((0, 1), op, (0, 0), (1, 0)),), (((0,), pairs), ((1,), pairs)))), False)
        self.assertIs(both_hold(FRAME, ONES, ((((0, 6),) + leaks[0][1:],), promises)), False)
        self.assertIs(both_hold(FRAME, ONES, (leaks, (((0, 1), pairs),))), False)
        self.assertIs(both_hold(FRAME, ONES, (leaks, (((0,), ()),))), False)
        self.assertIs(both_hold(FRAME, ONES, (leaks, (((0,), pairs[1:]),))), False)

    def test_changed_papers(self):
        still = ((0,), (((1, 0),) * 3,))
        paper = both_paper(SMALL, still)
        self.assertEqual(paper, ((), (((), ((((0,), 0), ((1,), 0)),)),)))
        try_judge(self, lambda value: both_hold(SMALL, still, value), paper, lambda value: value == paper)
        frame = (2, 1, 0, (AND,), 0)
        loud = ((0,), (((1, 0), (1, 0), (1, 0), (2, 0), (1, 0), (1, 0), (1, 0)),))
        both = both_paper(frame, loud)
        self.assertEqual([len(part) for part in both], [1, 2])
        try_judge(self, lambda value: both_hold(frame, loud, value), both)
        self.assertIs(both_hold(frame, loud, (both[0], both[1][::-1])), True)

    def test_any_closed_lots(self):
        # The second state is never come to.
        still = ((1, 0),) * 3
        processor = ((0, 0), (still, still))
        least = ((((0,), 0), ((1,), 0)),)
        more = tuple(sorted(least + ((((0,), 1), ((1,), 1)),)))
        self.assertIs(both_hold(SMALL, processor, ((), (((), more),))), True)
        self.assertIs(both_hold(SMALL, processor, ((), (((), more[1:]),))), False)
        greater = tuple(sorted(itertools.combinations(sorted(itertools.product([(0,), (1,)], (0, 1))), 2)))
        self.assertIs(both_hold(SMALL, processor, ((), (((), greater),))), True)
        self.assertIs(both_hold(SMALL, processor, ((), (((), least),))), True)


if __name__ == "__main__":
    unittest.main()
