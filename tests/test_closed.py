"""[20]: promises kept whatever the number of registers is."""

import itertools
import random
import unittest

from leastpromise.closed import wide_holds, wide_paper
from leastpromise.court import is_kept
from leastpromise.errors import InvalidFrame, InvalidLot, InvalidProcessor
from leastpromise.events import events_many, frame_events, read_step
from leastpromise.runs import step_atoms
from tests.samples import AND, SUM3, XOR, is_tupled, kind_processor, quiet_processor, try_judge, try_order, try_wrong

SMALL = (2, 1, 0, (), 0)
FRAMES = [
    SMALL, (2, 1, 0, (AND,), 1), (2, 2, 0, (AND, XOR), 1), (2, 1, 2, (AND,), 1), (2, 1, 2, (), 0), (2, 1, 2, (AND, XOR), 0),
    (2, 3, 0, (XOR,), 2), (3, 1, 0, (SUM3,), 1)]
LOTS = [(), (0,), (1,), (0, 1), (2, 4), (6,), (0, 1, 6, 7), (0, 1, 2, 3, 4), (0, 1, 2, 4, 6, 7, 8), (2, 3, 4, 5, 8),
        (0, 1, 3, 5, 6, 7, 9), tuple(range(10))]
UP = ((0,), (((1, 0), (1, 0), (2, 0)),))


def kind_of(event):
    return event[:2] if event[0] in ("op", "wrong op", "fork") else event[:1]


def slow_steps(frame):
    """All steps of the frame, whether some datum has them or not."""
    events = frame_events(frame)
    wrong = [event for event in events if event[0].startswith("wrong")]
    for event in events:
        if event[0] == "fork":
            for many in range(frame[4] + 1):
                for way in itertools.product(wrong, repeat=many):
                    yield event, way
        elif event not in wrong:
            yield event, ()


def slow_doubles(frame, lot):
    """All double steps that are unlike at no atom of the lot."""
    kinds = {}
    for step in slow_steps(frame):
        kinds.setdefault(tuple(kind_of(event) for event in (step[0],) + step[1]), []).append(step)
    for steps in kinds.values():
        for one, other in itertools.product(steps, steps):
            if all(step_atoms(one)[atom] == step_atoms(other)[atom] for atom in lot):
                yield one, other


def slow_fit(cells, step):
    """The cells behind the step, or None if it doesn't fit them."""
    event, wrong = step
    for read in (event,) + wrong:
        if read[0] in ("load", "wrong load") and cells[read[1]] != read[2]:
            return None
    if event[0] == "store":
        told = list(cells)
        told[event[1]] = event[2]
        return tuple(told)
    return cells


class SlowWide:
    def __init__(self, frame, processor, lot):
        self.frame, self.processor = frame, processor
        self.doubles = list(slow_doubles(frame, lot))
        self.cells = list(itertools.product(range(frame[0]), repeat=frame[2]))

    def begin(self):
        return [((one, 0), (other, 0)) for one, other in itertools.combinations_with_replacement(self.cells, 2)]

    def behind(self, pair):
        (cells, state), (others, further) = pair
        for one, other in self.doubles:
            behind, later = slow_fit(cells, one), slow_fit(others, other)
            if behind is not None and later is not None:
                beats, near = read_step(self.frame, self.processor, state, one)
                more, far = read_step(self.frame, self.processor, further, other)
                yield beats == more, tuple(sorted([(behind, near), (later, far)]))

    def least(self):
        known, waiting = set(self.begin()), self.begin()
        for pair in waiting:
            for alike, later in self.behind(pair):
                if not alike:
                    return None
                if later not in known:
                    known.add(later)
                    waiting.append(later)
        return tuple(sorted(known))

    def is_wide(self, pairs):
        if not set(self.begin()) <= set(pairs):
            return False
        return all(alike and later in pairs for pair in pairs for alike, later in self.behind(pair))


def shows(frame, processor, lot, steps):
    """Whether these double steps show that the promise is broken: told by the steps one by one."""
    kinds = [[tuple(kind_of(event) for event in (step[0],) + step[1]) for step in pair] for pair in steps]
    if any(one != other for one, other in kinds):
        return False
    if any(step_atoms(one)[atom] != step_atoms(other)[atom] for one, other in steps for atom in lot):
        return False
    for way in (0, 1):
        fits = []
        for cells in itertools.product(range(frame[0]), repeat=frame[2]):
            for pair in steps:
                cells = None if cells is None else slow_fit(cells, pair[way])
            fits.append(cells is not None)
        if not any(fits):
            return False
    views, states = [], [0, 0]
    for pair in steps:
        told = [read_step(frame, processor, state, step) for state, step in zip(states, pair)]
        views.append(told[0][0] == told[1][0])
        states = [state for _, state in told]
    return views == [True] * (len(steps) - 1) + [False]


def processors(frame, many=4, seed=0):
    draw = random.Random(f"{seed} {frame}")
    events = frame_events(frame)
    told = [kind_processor(draw, events, draw.randrange(1, 4), 0.2) for _ in range(many)]
    return told + [quiet_processor(draw, len(events), draw.randrange(1, 4), 0.03) for _ in range(many)]


class WideTest(unittest.TestCase):
    def test_by_hand(self):
        # Without cells pairs of states alone decide; one state is beside itself.
        self.assertEqual(wide_paper(SMALL, UP, ()), ("kept", ((((), 0), ((), 0)),)))
        frame = (2, 1, 0, (AND,), 0)
        ones = ((0,), (((1, 0), (1, 0), (2, 0), (2, 0), (1, 0), (1, 0), (1, 0)),))
        self.assertEqual(wide_paper(frame, ones, (0,)), ("kept", ((((), 0), ((), 0)),)))
        word, steps = wide_paper(frame, ones, (1,))
        self.assertEqual((word, len(steps)), ("broken", 1))
        self.assertEqual({step[0][2] for step in steps[0]}, {0, 1})
        # With one register an operation's numbers are alike, so that each of both atoms keeps it there.
        self.assertTrue(is_kept(frame, ones, (1,)))
        self.assertFalse(is_kept((2, 2, 0, (AND,), 0), ones, (1,)))

    def test_against_all_double_steps(self):
        words = []
        for frame in FRAMES:
            draw = random.Random(f"20 {frame}")
            for processor in processors(frame, 4 if frame[4] < 2 else 2):
                for lot in draw.sample(LOTS, 4):
                    paper = wide_paper(frame, processor, lot)
                    self.assertTrue(is_tupled(paper))
                    self.assertIs(wide_holds(frame, processor, lot, paper), True)
                    least = SlowWide(frame, processor, lot).least()
                    words.append(paper[0])
                    if least is not None:
                        self.assertEqual(paper, ("kept", least))
                    else:
                        self.assertEqual(paper[0], "broken")
                        self.assertTrue(shows(frame, processor, lot, paper[1]), paper)
        self.assertGreater(min(words.count("kept"), words.count("broken")), 30)

    def test_frames_of_all_numbers_of_registers(self):
        for frame in FRAMES:
            for processor in processors(frame, 3, seed=1):
                for lot in LOTS[::3] + LOTS[1:2]:
                    paper = wide_paper(frame, processor, lot)
                    for many in (1, 2, 3) if frame[0] == 2 and not frame[2] and frame[4] < 2 else (1, 2):
                        other = frame[:1] + (many,) + frame[2:]
                        self.assertEqual(wide_paper(other, processor, lot)[0], paper[0])
                        if paper[0] == "kept":
                            self.assertTrue(is_kept(other, processor, lot))
                    if paper[0] == "broken" and len(paper[1]) == 1 and not paper[1][0][0][1]:
                        self.assertFalse(is_kept(frame[:1] + (2,) + frame[2:], processor, lot))

    def test_longer_rows_need_more_registers(self):
        frame = (2, 4, 0, (AND,), 0)
        events = frame_events(frame)
        first = tuple((1, 1) if event[:3] == ("op", 0, 1) else (1, 0) for event in events)
        processor = ((0, 0), (first, tuple((2, 1) if event == ("op", 0, 1, 0) else (1, 1) for event in events)))
        for lot in ((), (0,), (1,), (0, 1)):
            self.assertEqual(wide_paper(frame, processor, lot)[0], "kept" if lot == (0, 1) else "broken")
            if lot != (0, 1):
                self.assertFalse(is_kept(frame, processor, lot))

    def test_places_that_come_the_other_way_round(self):
        # A 0 leads to state 2, a 1 to state 1; from there on just a 1 from state 1 takes another time.
        frame = (2, 1, 0, (AND,), 0)
        events = frame_events(frame)
        first = tuple((1, 2 - event[2]) if event[0] == "op" else (1, 0) for event in events)
        second = tuple((1 + event[2], 1) if event[0] == "op" else (1, 1) for event in events)
        for rows in ((first, second, ((1, 2),) * len(events)), (first, ((1, 1),) * len(events), second)):
            paper = wide_paper(frame, ((0, 0, 0), rows), (1,))
            self.assertEqual((paper[0], len(paper[1])), ("broken", 2))
            self.assertTrue(shows(frame, ((0, 0, 0), rows), (1,), paper[1]))

    def test_any_wide_lot(self):
        draw = random.Random(21)
        for frame in ((2, 1, 0, (AND,), 1), (2, 1, 2, (AND,), 1)):
            for processor in processors(frame, 3, seed=2):
                for lot in ((0, 1, 2, 3, 4, 5, 6, 7), (0, 1, 2, 4, 6, 7, 8), (0, 1, 6, 7)):
                    wide = SlowWide(frame, processor, lot)
                    least = wide.least()
                    if least is None:
                        continue
                    places = sorted(itertools.product(wide.cells, range(len(processor[0]))))
                    every = tuple(itertools.combinations_with_replacement(places, 2))
                    for some in [every] + [set(least) | set(draw.sample(every, 1)) for _ in range(4)]:
                        pairs = tuple(sorted(some))
                        self.assertIs(wide_holds(frame, processor, lot, ("kept", pairs)), wide.is_wide(pairs))
                    for pair in least:
                        less = tuple(own for own in least if own != pair)
                        self.assertIs(wide_holds(frame, processor, lot, ("kept", less)), False)

    def test_changed_kept_papers(self):
        frame = (2, 1, 0, (AND,), 1)
        processor = ((3, 3), (((1, 1),) * 11, ((1, 0),) * 11))
        paper = wide_paper(frame, processor, ())
        self.assertEqual(paper, ("kept", ((((), 0), ((), 0)), (((), 1), ((), 1)))))
        wide = SlowWide(frame, processor, ())
        right = [(((), one), ((), other)) for one, other in ((0, 0), (0, 1), (1, 1))]

        def expected(value):
            if not isinstance(value, tuple) or len(value) != 2 or value[0] != "kept" or not isinstance(value[1], tuple):
                return False
            return all(pair in right for pair in value[1]) and list(value[1]) == sorted(set(value[1])) and (
                wide.is_wide(value[1]))

        try_judge(self, lambda value: wide_holds(frame, processor, (), value), paper, expected)
        self.assertIs(wide_holds(frame, processor, (), ("kept", tuple(right))), True)
        turned = tuple(sorted(right + [(((), 1), ((), 0))]))
        self.assertIs(wide_holds(frame, processor, (), ("kept", turned)), False)
        cells = (2, 1, 2, (), 0)
        kept = wide_paper(cells, ((0,), (((1, 0),) * events_many(cells),)), ())
        self.assertEqual(len(kept[1]), 10)
        try_judge(self, lambda value: wide_holds(cells, ((0,), (((1, 0),) * events_many(cells),)), (), value), kept)

    def test_broken_papers(self):
        frame = (2, 1, 2, (AND,), 1)
        events = frame_events(frame)
        processor = ((3,), (tuple((2, 0) if event[:2] in (("load", 1), ("wrong load", 1)) else (1, 0) for event in events),))
        judge = lambda value: wide_holds(frame, processor, (3,), value)
        paper = wide_paper(frame, processor, (3,))
        self.assertEqual((paper[0], len(paper[1])), ("broken", 1))
        try_judge(self, judge, paper)
        near, far = (("load", 0, 1), ()), (("load", 1, 1), ())
        store, other = (("store", 0, 0), ()), (("store", 1, 0), ())
        fence, fork = (("fence",), ()), (("fork", 0), ())
        wrong = [(("fork", 1), (("wrong op", 0, 0, 1), ("wrong load", at, 1))[1 - many:]) for at, many in ((0, 0), (1, 0))]
        cases = [
            ([(near, far)], True), ([(far, near)], True), ([(near, near)], False), ([], False),
            ([(fence, fence), (near, far)], True), ([(near, far), (fence, fence)], False), ([(near, far), (near, far)], False),
            ([(store, store), (near, far)], False), ([(store, other), (near, far)], False),
            ([(other, store), (near, far)], True), ([(store, fence), (near, far)], False),
            ([((("load", 0, 0), ()), far)], False), ([(near, (("load", 1, 0), ()))], False),
            ([((("load", 0, 0), ()), (("load", 0, 0), ())), (near, far)], False),
            ([((("load", 1, 0), ()), (("load", 1, 0), ())), (near, far)], False),
            ([(fork, (("fork", 1), ())), (near, far)], False), ([(fork, fork), (near, far)], True),
            ([((("op", 0, 0, 1), ()), (("op", 0, 1, 0), ())), (near, far)], True),
            ([(tuple(wrong))], True), ([(wrong[0], (("fork", 1), (("wrong op", 0, 1, 1),)))], False),
            ([(wrong[0], (("fork", 0), wrong[1][1]))], False), ([(wrong[0], (("fork", 1), ()))], False)]
        for steps, expected in cases:
            self.assertIs(judge(("broken", tuple(steps))), expected, steps)
        # A wrong load must fit, too: behind a store of a 0 there is no 1 at this address.
        self.assertIs(judge(("broken", ((store, store), (wrong[1], wrong[1])))), False)
        self.assertIs(judge(("broken", ((store, store), tuple(wrong)))), False)
        self.assertIs(judge(("broken", ((other, other), tuple(wrong)))), False)
        self.assertIs(judge(("broken", ((store, other), tuple(wrong)))), False)
        self.assertIs(judge(("broken", ((other, store), tuple(wrong)))), True)
        self.assertIs(judge(("broken", ((store, other), tuple(wrong[::-1])))), True)
        deep = [(("fork", 1), (("wrong load", at, 1),) * 2) for at in (0, 1)]
        self.assertIs(judge(("broken", (tuple(deep),))), False)
        for value in (
                ("broken", [(near, far)]), ("broken", ([near, far],)), ("broken", ((near, far, near),)), ("broken", (near, far)),
                ("kept", ((near, far),)), ("way", ((near, far),)), ("broken", ((near, far),), ()), ("broken",), ("broken", ((near, None),)),
                ("broken", ((near, (("load", True, 1), ())),)), ("broken", ((near, (["load", 1, 1], ())),))):
            self.assertIs(judge(value), False, value)
        self.assertIs(wide_holds(frame, processor, [2], ("broken", ((near, far),))), False)

    def test_beats_that_are_unlike_ahead(self):
        frame = (2, 1, 0, (AND,), 0)
        events = frame_events(frame)
        loud = ((0,), (tuple((event[2] + 1, 0) if event[0] == "op" else (1, 0) for event in events),))
        step = ((("op", 0, 0, 0), ()), (("op", 0, 1, 0), ()))
        self.assertIs(wide_holds(frame, loud, (), ("broken", (step,))), True)
        self.assertIs(wide_holds(frame, loud, (), ("broken", (step, step))), False)
        self.assertIs(wide_holds(frame, loud, (1,), ("broken", (step,))), True)
        self.assertIs(wide_holds(frame, loud, (0,), ("broken", (step,))), False)

    def test_any_values(self):
        good = (SMALL, UP, ())
        wrong = {
            0: (None, (InvalidFrame, -1)), 1: (((4,), (0,)), (InvalidProcessor, 0)), 2: ([3, 3], (InvalidLot, 1))}
        try_wrong(self, wide_paper, good, {1: InvalidProcessor, 2: InvalidLot})
        try_order(self, wide_paper, good, wrong)
        try_wrong(self, wide_holds, good + (None,), {1: InvalidProcessor, 2: InvalidLot})
        try_order(self, wide_holds, good + (None,), wrong)
        self.assertEqual(wide_paper(frame=SMALL, processor=UP, lot=[1]), wide_paper(SMALL, UP, (1,)))


if __name__ == "__main__":
    unittest.main()
