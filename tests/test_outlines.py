"""[46], [47]: tables that only compare, coarser values."""

import itertools
import random
import unittest

from leastpromise.errors import InvalidFrame, InvalidIndex, InvalidProcessor, InvalidTable, Refused
from leastpromise.events import event_number, events_many, frame_events, need_processor
from leastpromise.leaks import least_leaks, least_promises
from leastpromise.outlines import coarse_table, compared, compared_atoms, finer
from leastpromise.programs import need_frame
from leastpromise.values import read_atoms
from tests.samples import AND, ANY, HUGE, SUM3, XOR, is_tupled, kind_processor, outcome, some_processor, try_order, try_wrong

LEAST = (0, 0, 0, 0, 1, 1, 0, 1, 2)
OUTLINE = ((0,), (((1, 0), (2, 0), (1, 0), (1, 0), (1, 0), (1, 0)),))
CHOICES = list(itertools.product((0, 1), repeat=3))


def outcome_of(one, other):
    return (one > other) - (one < other) + 1


def outcomes_many(choices, deep):
    return 3 * len(choices) * (2 if deep else 1) + 3


def some_outline(draw, choices, deep, states):
    """An outline that often reads outcomes alike."""
    guesses = tuple(draw.randrange(4) for _ in range(states))
    rows = []
    for _ in range(states):
        row = []
        for _ in range(outcomes_many(choices, deep) // 3):
            told = [(draw.choice((1, 1, 2)), draw.randrange(states)) for _ in range(3)]
            row += draw.choice(([told[0]] * 3, [told[0]] * 3, [told[0], told[0], told[1]], told))
        rows.append(tuple(row))
    return guesses, tuple(rows)


class ComparedTest(unittest.TestCase):
    def test_the_printed_example(self):
        self.assertEqual(compared_atoms(((0, 0, 1),), 0, OUTLINE), (0, 1))
        self.assertEqual(read_atoms(*compared(3, 4, ((0, 0, 1),), 0, OUTLINE)), (0, 1))

    def test_by_hand(self):
        row = ((1, 0), (2, 0), (3, 0), (4, 0), (5, 0), (6, 0), (7, 0), (8, 0), (9, 0))
        frame, processor = compared(2, 2, ((0, 0, 1),), 3, ((2,), (row,)))
        self.assertEqual(frame, (2, 2, 0, ((0, 0, 0, 1),), 3))
        self.assertEqual(processor, ((2,), (tuple((beats, 0) for beats in (2, 1, 3, 2, 4, 5, 6, 8, 7, 9, 8)),)))
        frame, processor = compared(3, 1, ((1, 0, 0), (0, 1, 1)), 0, ((0,), (row,)))
        self.assertEqual(frame, (3, 1, 0, ((0, 1, 2, 1, 1, 2, 2, 2, 2), (0, 0, 0, 0, 1, 1, 0, 1, 2)), 0))
        self.assertEqual(compared(2, 1, (), 0, ((0,), (((1, 0), (2, 0), (3, 0)),))), (
            (2, 1, 0, (), 0), ((0,), (((1, 0), (2, 0), (3, 0)),))))

    def test_each_event_is_read_as_its_outcome(self):
        draw = random.Random(46)
        for size, registers, deep in itertools.product((2, 3), (1, 3, 4), (0, 1, 2)):
            choices = tuple(draw.choice(CHOICES) for _ in range(draw.randrange(4)))
            outline = some_outline(draw, choices, deep, 3)
            frame, processor = told = compared(size, registers, choices, deep, outline)
            self.assertTrue(is_tupled(told))
            need_frame(frame)
            need_processor(frame, processor)
            self.assertEqual(frame[:3] + frame[4:], (size, registers, 0, deep))
            for choice, table in zip(choices, frame[3]):
                for one, other in itertools.product(range(size), repeat=2):
                    self.assertEqual(table[one * size + other], (one, other)[choice[outcome_of(one, other)]])
            self.assertEqual(processor[0], outline[0])
            ops = 3 * len(choices)
            for event in frame_events(frame):
                place = {"fence": ops, "fork": ops + 1 + event[-1] if event[0] == "fork" else 0}.get(event[0])
                if place is None:
                    ahead = 0 if event[0] == "op" else ops + 3
                    place = ahead + 3 * event[1] + outcome_of(*event[2:])
                for row, own in zip(processor[1], outline[1]):
                    self.assertEqual(row[event_number(frame, event)], own[place])

    def test_one_least_promise_for_all_rich_frames(self):
        draw, seen = random.Random(47), set()
        for deep in (0, 1, 2):
            for _ in range(10):
                choices = tuple(draw.choice(CHOICES) for _ in range(1 if deep == 2 else draw.randrange(3)))
                outline = some_outline(draw, choices, deep, draw.randrange(1, 4))
                lot = compared_atoms(choices, deep, outline)
                self.assertIn(lot, ((), (0, 1), (6, 7), (0, 1, 6, 7)))
                seen.add(lot)
                for size, registers in ((2, 3), (2, 4)) + (((3, 4),) if deep < 2 else ()):
                    self.assertEqual(read_atoms(*compared(size, registers, choices, deep, outline)), lot)
                frame, processor = compared(2, 3, choices, deep, outline)
                if deep < 2:
                    self.assertEqual(least_promises(frame, processor), (lot,))
        self.assertEqual(len(seen), 4)

    def test_wrong_ones(self):
        row = ((1, 0),) * 6
        good = (2, 3, ((0, 0, 1),), 0, ((0,), (row,)))
        told = lambda place, value: outcome(compared, *good[:place], value, *good[place + 1:])
        for value in ANY:
            if value not in (2, 3) or isinstance(value, bool):
                self.assertEqual(told(0, value), (InvalidFrame, 0), value)
            if value not in (1, 2, 3, 4) or isinstance(value, bool):
                self.assertEqual(told(1, value), (InvalidFrame, 1), value)
            if value not in (0, 1, 2, 3) or isinstance(value, bool):
                self.assertEqual(told(3, value), (InvalidFrame, 4), value)
                self.assertEqual(outcome(compared_atoms, good[2], value, None), (InvalidFrame, 4), value)
            if value != ():
                self.assertEqual(told(2, value), (InvalidFrame, 3), value)
                self.assertEqual(outcome(compared_atoms, value, None, None), (InvalidFrame, 3), value)
        for choices in (((0, 0, 1),) * 5, ((0, 0),), ((0, 0, 0, 0),), ((0, 0, 2),), ([0, 0, 1],), ((0, 0, True),), [(0, 0, 1)]):
            self.assertEqual(told(2, choices), (InvalidFrame, 3), choices)
        for outline, at in (
                (None, -1), (((), ()), -1), (((0,),), -1), (((0,), ()), -1), (([0], (row,)), -1), (((0,), [row]), -1),
                (((0,) * 61, (row,) * 61), -1), (((4,), (row,)), 0), (((True,), (row,)), 0), (((0, None), (row, ())), 0),
                (((0,), (row[1:],)), 1), (((0,), (row + row[:1],)), 1), (((0,), (list(row),)), 1),
                (((0, 0), (row, row[1:] + ((1, 2),))), 2), (((0, 0), (row, row[1:] + ((0, 1),))), 2),
                (((0, 0), (row, row[1:] + ((1, True),))), 2), (((0, 0), (row, row[1:] + ([1, 0],))), 2)):
            self.assertEqual(told(4, outline), (InvalidProcessor, at), outline)
            self.assertEqual(outcome(compared_atoms, good[2], 0, outline), (InvalidProcessor, at), outline)
        self.assertEqual(told(4, ((0,) * 60, (row,) * 60))[0], "told")
        four = ((0,), (((1, 0),) * 15,))
        self.assertEqual(len(compared(2, 1, ((0, 0, 1),) * 4, 0, four)[0][3]), 4)
        self.assertEqual(compared_atoms(((0, 0, 1),) * 4, 0, four), ())
        # With wrong ways an outline has as many outcomes more, without them it must not have them.
        self.assertEqual(told(3, 1), (InvalidProcessor, 1))
        self.assertEqual(told(4, ((0,), (((1, 0),) * 9,))), (InvalidProcessor, 1))
        wrong = {
            0: (4, (InvalidFrame, 0)), 1: (5, (InvalidFrame, 1)), 2: (None, (InvalidFrame, 3)), 3: (4, (InvalidFrame, 4)),
            4: (None, (InvalidProcessor, -1))}
        try_order(self, compared, good, wrong)
        try_order(self, compared_atoms, good[2:], {place - 2: told for place, told in wrong.items() if place > 1})


def fits(table, coarse, up):
    down = (0, 1, 1)
    lift = (0, up)
    return all(
        down[table[one * 3 + other]] == coarse[down[one] * 2 + down[other]]
        for one, other in itertools.product(range(3), repeat=2)) and all(
        lift[coarse[one * 2 + other]] == table[lift[one] * 3 + lift[other]]
        for one, other in itertools.product((0, 1), repeat=2))


class CoarserTest(unittest.TestCase):
    def test_the_printed_example(self):
        self.assertEqual(coarse_table(LEAST, 1), (0, 0, 0, 1))
        self.assertIsNone(coarse_table(SUM3, 1))

    def test_all_tables(self):
        small = list(itertools.product((0, 1), repeat=4))
        draw = random.Random(48)
        tables = [tuple(draw.choice(((0,), (1, 2), (0, 1, 2))[draw.choice((0, 1, 1, 2))]) for _ in range(9)) for _ in range(1500)]
        tables += [(0, 0, 0, 0) + rest for rest in itertools.product(range(3), repeat=5)]
        found = 0
        for table in tables:
            for up in (1, 2):
                fellows = [coarse for coarse in small if fits(table, coarse, up)]
                self.assertLessEqual(len(fellows), 1)
                self.assertEqual(coarse_table(table, up), fellows[0] if fellows else None)
                found += len(fellows)
        self.assertGreater(found, 30)

    def test_wrong_ones(self):
        for value in ANY + [LEAST[:8], LEAST + (0,), list(LEAST), LEAST[:8] + (3,), LEAST[:8] + (True,), (0,) * 4]:
            self.assertEqual(outcome(coarse_table, value, None), (InvalidTable, -1), value)
        for value in ANY:
            if value not in (1, 2) or isinstance(value, bool):
                self.assertEqual(outcome(coarse_table, LEAST, value), (InvalidIndex, -1), value)

    FRAME = (2, 2, 0, (AND,), 1)

    def test_read_as_coarser_events(self):
        draw = random.Random(49)
        for frame, tables, up in (
                (self.FRAME, [LEAST], 1), (self.FRAME, (LEAST,), 2), ((2, 1, 0, (), 2), (), 1),
                ((2, 1, 0, (AND, (0, 0, 0, 0)), 0), [LEAST, (0,) * 9], 1), ((2, 3, 0, ((1, 1, 1, 1),), 0), [(2,) * 9], 2)):
            processor = some_processor(draw, events_many(frame), 3)
            fine, told = finer(frame, processor, tables, up)
            self.assertTrue(is_tupled((fine, told)))
            self.assertEqual(fine, (3, frame[1], 0, tuple(tables), frame[4]))
            need_frame(fine)
            need_processor(fine, told)
            self.assertEqual(told[0], processor[0])
            for event in frame_events(fine):
                coarse = event[:2] + tuple(min(1, value) for value in event[2:]) if event[0] in ("op", "wrong op") else event
                for row, own in zip(told[1], processor[1]):
                    self.assertEqual(row[event_number(fine, event)], own[event_number(frame, coarse)])

    def test_it_has_the_same_leaks_and_promises(self):
        draw, seen = random.Random(50), set()
        fitting = [table for table in itertools.product(range(3), repeat=9) if table[0] == 0 and coarse_table(table, 1)]
        for registers in (1, 2):
            for deep in (0, 1):
                for _ in range(5):
                    table = draw.choice(fitting)
                    frame = (2, registers, 0, (coarse_table(table, 1),), deep)
                    processor = kind_processor(draw, frame_events(frame), 2, 0.3)
                    fine, told = finer(frame, processor, [table], 1)
                    self.assertEqual(least_leaks(fine, told), least_leaks(frame, processor))
                    self.assertEqual(least_promises(fine, told), least_promises(frame, processor))
                    seen.add(least_leaks(frame, processor))
        self.assertGreater(len(seen), 5)

    def test_what_is_wrong_or_does_not_fit(self):
        still = ((0,), (((1, 0),) * events_many(self.FRAME),))
        good = (self.FRAME, still, [LEAST], 1)
        try_order(self, finer, good, {
            0: (None, (InvalidFrame, -1)), 1: (((4,), (0,)), (InvalidProcessor, 0)), 2: ([None], (InvalidTable, 0)),
            3: (0, (InvalidIndex, -1))})
        for frame in ((3, 2, 0, (SUM3,), 1), (2, 2, 2, (AND,), 1), (3, 1, 3, (), 0)):
            self.assertEqual(outcome(finer, frame, None, None, None), (Refused, "frame"), frame)
        told = lambda tables: outcome(finer, self.FRAME, still, tables, 1)
        for value in (None, 0, "a", (), [], [LEAST, LEAST], True, LEAST):
            self.assertEqual(told(value), (InvalidTable, -1), value)
        for value in (None, list(LEAST), LEAST[1:], LEAST[:8] + (3,), LEAST[:8] + (True,), AND, 0, "a", (HUGE,) * 9):
            self.assertEqual(told([value]), (InvalidTable, 0), value)
        self.assertEqual(told([SUM3]), (Refused, 0))
        self.assertEqual(told([(0,) * 9]), (Refused, 0))
        two = (2, 1, 0, (AND, XOR), 0)
        quiet = ((0,), (((1, 0),) * events_many(two),))
        self.assertEqual(outcome(finer, two, quiet, [LEAST, SUM3], 1), (Refused, 1))
        self.assertEqual(outcome(finer, two, quiet, [LEAST, LEAST], 1), (Refused, 1))
        self.assertEqual(outcome(finer, two, quiet, [SUM3, None], 1), (InvalidTable, 1))
        self.assertEqual(outcome(finer, two, quiet, [SUM3, SUM3], None), (InvalidIndex, -1))
        for place, error in {1: InvalidProcessor, 2: InvalidTable, 3: InvalidIndex}.items():
            for value in ANY:
                self.assertIn(outcome(finer, *good[:place], value, *good[place + 1:])[0], ("told", Refused, error))
        try_wrong(self, coarse_table, (LEAST, 1), {0: InvalidTable, 1: InvalidIndex})


if __name__ == "__main__":
    unittest.main()
