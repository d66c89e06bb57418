"""[48], [49]: promises at every depth of wrong ways, one number for each atom."""

import itertools
import random
import unittest

from leastpromise.closed import wide_paper
from leastpromise.court import is_kept
from leastpromise.depths import (
    atom_depths, depth_holds, depth_paper, latest_processor, least_at, promise_depth)
from leastpromise.errors import InvalidFrame, InvalidLot, InvalidProcessor, InvalidSize, Refused
from leastpromise.events import frame_events, need_processor
from tests.samples import (
    AND, ANY, HUGE, SUM3, XOR, is_tupled, kind_processor, outcome, try_judge, try_order, try_wrong, with_part)

DRY = (2, 1, 0, (), 1)
FRAME = (2, 2, 0, (XOR,), 2)
FRAMES = [FRAME, (2, 1, 0, (AND,), 1), (2, 3, 0, (AND, XOR), 1), (3, 1, 0, (SUM3,), 1), DRY]
LOTS = [(), (0,), (1,), (6,), (7,), (0, 1), (6, 7), (0, 1, 6), (0, 1, 7), (0, 6, 7), (2, 3, 6), tuple(range(10))]
STILL = ((0,), (((1, 0),) * 3,))


def processors(frame, many, seed=0):
    draw = random.Random(f"{seed} {frame}")
    events = frame_events(frame)
    for _ in range(many):
        yield kind_processor(draw, events, draw.randrange(1, 4), 0.3)
        states = draw.randrange(1, 4)
        # Here wrong events alone are told apart, and seldom at once.
        rows = tuple(tuple(
            (1 if draw.random() < 0.8 else beats, state) if event[0] == "wrong op" else (1, 0)
            for event, (beats, state) in zip(events, row)) for row in kind_processor(draw, events, states, 0.4)[1])
        yield (3,) * states, rows


def made_good(frame, many, seed=0):
    """Processors whose forks take unlike beats behind wrong events, which may make them good, and lead elsewhere."""
    draw = random.Random(f"{seed} {frame}")
    for _ in range(many):
        states = draw.randrange(2, 4)
        rows = []
        for state in range(states):
            beats, later = [draw.randrange(1, 4) for _ in range(2)], [draw.choice((0, state)) for _ in range(2)]
            plain, by_value = draw.choice((0, 0, state)), draw.random() < 0.3
            reads = {}
            row = []
            for event in frame_events(frame):
                if event[0] == "fork":
                    row.append((beats[event[1]], later[event[1]]))
                elif event[0] == "wrong op":
                    seen = event[:2] + tuple(value for value in event[2:] if draw.random() < 0.2)
                    row.append(reads.setdefault(seen, (draw.randrange(1, 3), draw.randrange(states))))
                else:
                    row.append((1, event[2] if by_value and event[0] == "op" else plain))
            rows.append(tuple(row))
        yield tuple(draw.choice((0, 1, 2, 3, 3)) for _ in range(states)), tuple(rows)


def with_deep(frame, deep):
    return frame[:4] + (deep,)


class SlowNodes:
    """States and nodes, straight from the document's words."""

    def __init__(self, frame, processor, lot):
        self.guesses, self.steps = processor
        self.many = len(self.guesses)
        self.lot = lot
        self.events = frame_events(frame)

    def state(self, node):
        return node % self.many

    def begin(self, side, state):
        return state if self.guesses[state] in ((2, 3), (1, 3))[side] else self.many + state

    def read(self, state, event):
        return self.steps[state][self.events.index(event)]

    def behind(self, side, node, event):
        """(surplus, node)."""
        if node >= self.many:
            return 0, node
        beats, later = self.read(node, event)
        return beats + self.read(later, ("fork", side))[0] - self.read(node, ("fork", side))[0], later

    def agree(self, one, other):
        first = {"op": 0, "wrong op": 6}.get(one[0])
        if one[0] != other[0] or one[0].endswith("op") and one[1] != other[1]:
            return False
        return first is None or all(one[2 + at] == other[2 + at] for at in (0, 1) if first + at in self.lot)

    def agreeing(self, *words):
        events = [event for event in self.events if event[0] in words]
        return [pair for pair in itertools.product(events, repeat=2) if self.agree(*pair)]


def same(classes, one, other):
    return classes[one] is not None and classes[one] == classes[other]


def in_one(classes):
    members = range(len(classes))
    return [pair for pair in itertools.product(members, repeat=2) if same(classes, *pair)]


def ends_well(nodes, side, classes, outs):
    ends = lambda node: nodes.read(nodes.state(node), ("fork", side))[1]
    return all(same(outs, ends(one), ends(other)) for one, other in in_one(classes))


def leads_into(nodes, side, classes, others, outs):
    if not ends_well(nodes, side, classes, outs):
        return False
    for one, other in in_one(classes):
        for event, more in nodes.agreeing("wrong op"):
            (surplus, later), (further, last) = nodes.behind(side, one, event), nodes.behind(side, other, more)
            if surplus != further or not same(others, later, last):
                return False
    return True


def goes_with(nodes, outs, sides):
    if outs[0] is None:
        return False
    for one, other in in_one(outs):
        for event, more in nodes.agreeing("op", "fence"):
            (beats, later), (less, last) = nodes.read(one, event), nodes.read(other, more)
            if beats != less or not same(outs, later, last):
                return False
        for side in (0, 1):
            if nodes.read(one, ("fork", side))[0] != nodes.read(other, ("fork", side))[0]:
                return False
            if not same(sides[side], nodes.begin(side, one), nodes.begin(side, other)):
                return False
    return True


def is_number(value):
    return type(value) is int and value >= 0


def are_classes(value, many):
    return isinstance(value, tuple) and len(value) == many and all(part is None or is_number(part) for part in value)


def read_steps(nodes, steps):
    state, view = 0, []
    for event, wrong in steps:
        beats = 0
        reads = wrong if event[0] == "fork" and nodes.begin(event[1], state) < nodes.many else ()
        for read in reads + (event,):
            more, state = nodes.read(state, read)
            beats += more
        view.append(beats)
    return view


def is_step(nodes, step, deep):
    if not isinstance(step, tuple) or len(step) != 2 or not isinstance(step[1], tuple) or len(step[1]) > deep:
        return False
    if not all(is_event(nodes, event) for event in (step[0],) + step[1]) or step[0][0] == "wrong op":
        return False
    return step[1] == () or step[0][0] == "fork" and all(event[0] == "wrong op" for event in step[1])


def is_event(nodes, event):
    return isinstance(event, tuple) and all(type(part) in (int, str) for part in event) and event in nodes.events


def are_broken(nodes, steps, deep):
    if not isinstance(steps, tuple) or not all(
            isinstance(pair, tuple) and len(pair) == 2 and all(is_step(nodes, step, deep) for step in pair) for pair in steps):
        return False
    for (event, wrong), (other, further) in steps:
        if len(wrong) != len(further) or event[0] == "fork" and event != other:
            return False
        if not all(nodes.agree(*pair) for pair in zip((event,) + wrong, (other,) + further)):
            return False
    views = [read_steps(nodes, [pair[way] for pair in steps]) for way in (0, 1)]
    return views[0] != views[1] and views[0][:-1] == views[1][:-1]


def slow_holds(frame, processor, lot, value):
    nodes = SlowNodes(frame, processor, lot)
    if not isinstance(value, tuple):
        return False
    if len(value) == 3 and value[0] == "always":
        _, outs, rows = value
        if not are_classes(outs, nodes.many) or not isinstance(rows, tuple) or len(rows) != 2:
            return False
        if not all(are_classes(classes, 2 * nodes.many) for classes in rows):
            return False
        return all(leads_into(nodes, side, rows[side], rows[side], outs) for side in (0, 1)) and goes_with(nodes, outs,
            rows)
    if len(value) != 4 or value[0] != "from" or not is_number(value[1]) or not are_broken(nodes, value[2], value[1]):
        return False
    _, deep, _, kept = value
    if deep == 0:
        return kept is None
    if not isinstance(kept, tuple) or len(kept) != 2 or not are_classes(kept[0], nodes.many):
        return False
    outs, ladders = kept
    if not isinstance(ladders, tuple) or len(ladders) != 2:
        return False
    for side, ladder in enumerate(ladders):
        if not isinstance(ladder, tuple) or len(ladder) != deep or not all(are_classes(part, 2 * nodes.many) for part in ladder):
            return False
        if not ends_well(nodes, side, ladder[0], outs):
            return False
        if not all(leads_into(nodes, side, ladder[at], ladder[at - 1], outs) for at in range(1, deep)):
            return False
    return goes_with(nodes, outs, [ladder[-1] for ladder in ladders])


class DepthTest(unittest.TestCase):
    def test_just_one_word_that_holds(self):
        words = {}
        for frame in FRAMES:
            draw = random.Random(f"48 {frame}")
            for processor in processors(frame, 12):
                for lot in draw.sample(LOTS, 3):
                    paper = depth_paper(frame, processor, lot)
                    self.assertTrue(is_tupled(paper))
                    self.assertIs(depth_holds(frame, processor, lot, paper), True, (frame, processor, lot, paper))
                    self.assertTrue(slow_holds(frame, processor, lot, paper))
                    depth = promise_depth(frame, processor, lot)
                    self.assertEqual(depth, None if paper[0] == "always" else paper[1])
                    self.check_depth(frame, processor, lot, depth)
                    words[depth] = words.get(depth, 0) + 1
        self.assertTrue(all(words.get(depth, 0) > 2 for depth in (None, 0, 1, 2)), words)

    def test_surpluses_that_are_made_good(self):
        words = {}
        for frame in ((2, 1, 0, (AND,), 1), (2, 1, 0, (XOR, AND), 1)):
            for processor in made_good(frame, 150):
                for lot in ((), (6,), (6, 7)):
                    paper = depth_paper(frame, processor, lot)
                    self.assertIs(depth_holds(frame, processor, lot, paper), True, (frame, processor, lot, paper))
                    self.assertTrue(slow_holds(frame, processor, lot, paper))
                    depth = None if paper[0] == "always" else paper[1]
                    self.check_depth(frame, processor, lot, depth)
                    words[depth] = words.get(depth, 0) + 1
        self.assertTrue(all(words.get(depth, 0) > 1 for depth in (None, 0, 1, 2)), words)

    def check_depth(self, frame, processor, lot, depth):
        """At depths below alone the lot is kept by frames of every number of registers."""
        self.assertTrue(depth is None or depth <= 2 * len(processor[0]) - 1)
        for deep in (1, 2, 3):
            word = "kept" if depth is None or deep < depth else "broken"
            self.assertEqual(wide_paper(with_deep(frame, deep), processor, lot)[0], word)

    def test_how_deep_and_how_many_registers_does_not_matter(self):
        for processor in processors(FRAME, 5, seed=1):
            for lot in LOTS[::3]:
                papers = {depth_paper((2, registers, 0, (XOR,), deep), processor, lot) for registers in (1, 2,
                    4) for deep in (1, 2, 3)}
                self.assertEqual(len(papers), 1)
                if promise_depth(FRAME, processor, lot) in (None, 3):
                    self.assertTrue(is_kept((2, 2, 0, (XOR,), 2), processor, lot))

    def test_by_hand(self):
        self.assertEqual(depth_paper(DRY, STILL, ()), ("always", (0,), ((None, 1), (None, 1))))
        self.assertEqual(depth_paper(DRY, ((3,), STILL[1]), ())[1:], ((0,), ((0, None), (0, None))))
        frame = (2, 1, 0, (AND,), 1)
        ones = tuple((1 + event[2], 0) if event[0] == "op" else (1, 0) for event in frame_events(frame))
        step = lambda value, other: (("op", 0, value, other), ())
        paper = depth_paper(frame, ((3,), (ones,)), ())
        self.assertEqual((paper[:2], len(paper[2]), paper[3]), (("from", 0), 1, None))
        self.assertEqual(promise_depth(frame, ((3,), (ones,)), (0,)), None)
        for steps, expected in (
                (((step(0, 0), step(1, 0)),), True), (((step(1, 0), step(0, 1)),), True),
                (((step(1, 0), step(1, 1)),), False),
                (((step(1, 0), step(1, 1)), (step(0, 0), step(1, 0))), True), (((step(0, 0), step(1, 0)),) * 2, False),
                ((), False),
                (((step(0, 0), (("fence",), ())),), False), (((step(0, 0), step(2, 0)),), False)):
            self.assertIs(depth_holds(frame, ((3,), (ones,)), (), ("from", 0, steps, None)), expected, steps)
        self.assertIs(depth_holds(frame, ((3,), (ones,)), (0,), ("from", 0, ((step(0, 0), step(1, 0)),), None)), False)

    def test_depths_above_three(self):
        for states in (2, 3, 4):
            processor = latest_processor(FRAME, states)
            lot = (0, 1, 7)
            paper = depth_paper(FRAME, processor, lot)
            self.assertEqual((paper[0], paper[1]), ("from", 2 * states - 1))
            self.assertTrue(slow_holds(FRAME, processor, lot, paper))
            # Neither lesser nor greater ones hold with these steps and ladders.
            for deep in (paper[1] - 1, paper[1] + 1, 0, HUGE):
                self.assertIs(depth_holds(FRAME, processor, lot, with_part(paper, 1, deep)), False)
            short = tuple(ladder[:-1] for ladder in paper[3][1])
            self.assertIs(depth_holds(FRAME, processor, lot, ("from", paper[1] - 1, paper[2], (paper[3][0], short))),
                False)
            longer = (paper[3][0], tuple(ladder[:1] + ladder for ladder in paper[3][1]))
            self.assertIs(depth_holds(FRAME, processor, lot, ("from", paper[1] + 1, paper[2], longer)), False)
            # Steps of a greater depth show no more: they may have more wrong events than are told.
            way = paper[2][-1][0][1]
            self.assertEqual(len(way), paper[1])
            self.assertIs(depth_holds(FRAME, processor, lot, paper), True)

    def test_any_classes(self):
        draw, seen = random.Random(49), []
        frame = (2, 1, 0, (AND,), 1)
        for processor in processors(frame, 6, seed=2):
            many = len(processor[0])
            for lot in LOTS[::2]:
                paper = depth_paper(frame, processor, lot)
                for outs in ((0,) * many, (None,) * many, tuple(range(many)), (0,) + (None,) * (many - 1)):
                    for classes in ((0,) * (2 * many), (None,) * (2 * many), tuple(range(2 * many))):
                        value = ("always", outs, (classes, classes))
                        seen.append(depth_holds(frame, processor, lot, value))
                        self.assertIs(seen[-1], slow_holds(frame, processor, lot, value), (processor, lot, value))
                for _ in range(12):
                    some = lambda size: tuple(draw.choice((None, 0, 1, HUGE)) for _ in range(size))
                    changed = lambda classes: with_part(classes, draw.randrange(len(classes)),
                        draw.choice((None, 0, 1, 7)))
                    value = ("always", some(many), (some(2 * many), some(2 * many)))
                    if paper[0] == "always":
                        value = draw.choice((value, ("always", changed(paper[1]), paper[2]),
                            ("always", paper[1], (changed(paper[2][0]), paper[2][1]))))
                    elif paper[1]:
                        outs, ladders = paper[3]
                        ladder = with_part(ladders[1], draw.randrange(paper[1]), changed(draw.choice(ladders[1])))
                        value = paper[:3] + ((outs, (ladders[0], ladder)),)
                    seen.append(depth_holds(frame, processor, lot, value))
                    self.assertIs(seen[-1], slow_holds(frame, processor, lot, value), (processor, lot, value))
                if paper[0] == "always":
                    # Classes may have other numbers.
                    other = lambda classes: tuple(None if part is None else 5 * part + HUGE for part in classes)
                    self.assertIs(depth_holds(frame, processor, lot, ("always", other(paper[1]), tuple(map(other, paper[2])))), True)
        self.assertGreater(min(seen.count(True), seen.count(False)), 15)

    def test_what_outs_must_go_with(self):
        # One thing after another is unlike in two states that are told as one class.
        frame = (2, 1, 0, (AND,), 1)
        events, many = frame_events(frame), 11
        value, seen = ("always", (0, 0), ((0, 0, 1, 1),) * 2), []
        for number in range(many):
            for beats, state in ((2, 0), (1, 1), (2, 1)):
                row = with_part(((1, 0),) * many, number, (beats, state))
                for guesses in ((0, 0), (3, 3), (0, 3)):
                    processor = (guesses, (((1, 0),) * many, row))
                    for lot in ((), (0, 1, 6, 7)):
                        expected = slow_holds(frame, processor, lot, value)
                        self.assertIs(depth_holds(frame, processor, lot, value), expected, (events[number], beats, state))
                        seen.append(expected)
                apart = ("always", (0, 1), ((0, 1, 2, 3),) * 2)
                self.assertIs(depth_holds(frame, processor, (), apart), slow_holds(frame, processor, (), apart))
        self.assertGreater(min(seen.count(True), seen.count(False)), 20)

    def test_changed_papers(self):
        frame = (2, 1, 0, (AND,), 1)
        quiet = ((3,), (((1, 0),) * 11,))
        two = ((3, 0), (((1, 1),) * 11, ((1, 0),) * 11))
        late = latest_processor(frame, 2)
        once = latest_processor(frame, 1)
        for processor, lot in ((quiet, ()), (two, ()), (once, ()), (late, (0, 1, 7))):
            paper = depth_paper(frame, processor, lot)
            judge = lambda value: depth_holds(frame, processor, lot, value)
            try_judge(self, judge, paper, lambda value: slow_holds(frame, processor, lot, value))

    def test_wrong_frames(self):
        wet = (2, 1, 2, (AND,), 0)
        for function, rest in (
                (depth_paper, (STILL, ())), (depth_holds, (STILL, (), None)), (promise_depth, (STILL, ())),
                (atom_depths, (STILL,)),
                (least_at, (STILL, 0)), (latest_processor, (1,))):
            for frame, at in (
                    (None, -1), ((4, 1, 0, (), 1), 0), ((2, 0, 2, (), 0), 1), ((2, 1, 1, (), 0), 2),
                    ((2, 1, 2, None, 0), 3), ((2, 1, 2, (), 4), 4),
                    (wet, 2), ((2, 1, 0, (), 0), 4), ((2, 1, 2, (), 1), 2)):
                self.assertEqual(outcome(function, frame, *rest), (InvalidFrame, at), (function, frame))

    def test_any_values(self):
        good = (DRY, STILL, ())
        wrong = {0: (None, (InvalidFrame, -1)), 1: (((4,), (0,)), (InvalidProcessor, 0)), 2: ([3, 3], (InvalidLot, 1))}
        for function in (depth_paper, promise_depth):
            try_wrong(self, function, good, {0: InvalidFrame, 1: InvalidProcessor, 2: InvalidLot})
            try_order(self, function, good, wrong)
        try_wrong(self, depth_holds, good + (None,), {0: InvalidFrame, 1: InvalidProcessor, 2: InvalidLot})
        try_order(self, depth_holds, good + (None,), wrong)
        self.assertEqual(depth_paper(frame=DRY, processor=STILL, lot=[6]), depth_paper(DRY, STILL, (6,)))


class NumberTest(unittest.TestCase):
    def test_the_printed_example(self):
        frame = (2, 2, 0, ((0, 1, 1, 0),), 2)
        self.assertEqual(atom_depths(frame, latest_processor(frame, 3))[2], 5)

    def test_the_number_of_each_atom(self):
        seen = set()
        for frame in FRAMES:
            for processor in processors(frame, 5, seed=3):
                told = atom_depths(frame, processor)
                expected = tuple(promise_depth(frame, processor, lot) for lot in ((1, 6, 7), (0, 6, 7), (0, 1, 7),
                    (0, 1, 6)))
                self.assertEqual(told, expected)
                seen.add(told)
                for deep in (0, 1, 2, 3, 9, HUGE):
                    lot = tuple(atom for atom, number in zip((0, 1, 6, 7),
                        told) if number is not None and number <= deep)
                    self.assertEqual(least_at(frame, processor, deep), lot)
        self.assertGreater(len(seen), 8)

    def test_it_is_the_one_least_promise(self):
        for frame in FRAMES[:4]:
            for processor in processors(frame, 3, seed=4):
                for deep in (1, 2, 3):
                    lot = least_at(frame, processor, deep)
                    deeper = with_deep(frame, deep)
                    for other in itertools.chain.from_iterable(itertools.combinations((0, 1, 6, 7),
                            many) for many in range(5)):
                        word = "kept" if set(lot) <= set(other) else "broken"
                        self.assertEqual(wide_paper(deeper, processor, other)[0], word)

    def test_the_latest(self):
        for frame in (FRAME, (2, 1, 0, (AND,), 1), (3, 1, 0, (SUM3,), 3), (2, 4, 0, (AND, XOR, XOR, AND), 1)):
            for states in (1, 2, 3, 4):
                processor = latest_processor(frame, states)
                need_processor(frame, processor)
                self.assertTrue(is_tupled(processor))
                self.assertEqual(len(processor[0]), states)
                self.assertEqual(atom_depths(frame, processor)[2], 2 * states - 1)
        self.assertEqual(len(latest_processor(FRAME, 60)[0]), 60)

    def test_any_values(self):
        try_wrong(self, atom_depths, (DRY, STILL), {0: InvalidFrame, 1: InvalidProcessor})
        good = (DRY, STILL, 0)
        try_wrong(self, least_at, good, {0: InvalidFrame, 1: InvalidProcessor, 2: InvalidSize})
        try_order(self, least_at, good, {
            0: (None, (InvalidFrame, -1)), 1: (((4,), (0,)), (InvalidProcessor, 0)), 2: (-1, (InvalidSize, "deep"))})
        for value in ANY:
            told = outcome(latest_processor, FRAME, value)
            if told[0] != "told":
                self.assertEqual(told, (InvalidSize, "states"), value)
        for value in (0, 61, -1, True, None, "1", HUGE, (1,)):
            self.assertEqual(outcome(latest_processor, FRAME, value), (InvalidSize, "states"), value)
        for value in (1, 60, 0, None):
            self.assertEqual(outcome(latest_processor, DRY, value), (Refused, "tables"), value)


if __name__ == "__main__":
    unittest.main()
