"""[27], [28]: probes, which of two processors tells more, processors with the same views."""

import itertools
import random
import unittest

from leastpromise.bargain import loudest
from leastpromise.court import is_kept
from leastpromise.errors import InvalidFrame, InvalidLot, InvalidProcessor
from leastpromise.events import events_many, frame_events, read_step, view_from, view_of
from leastpromise.leaks import least_leaks
from leastpromise.probes import order_holds, order_paper, probe_leaks, probe_within, views_paper
from leastpromise.processors import least_processor, put_beside
from leastpromise.programs import unrolled
from leastpromise.runs import datum_behind, run_steps, unlike_atoms
from tests.samples import (
    AND, XOR, data_of, is_tupled, kind_processor, outcome, quiet_processor, some_processor, some_programs, try_judge,
    try_order, try_wrong)
from tests.slow import SlowCourt
from tests.test_watchers import atoms_of

SMALL = (2, 1, 0, (), 0)
UP = ((0,), (((1, 0), (1, 0), (2, 0)),))
STILL = ((0,), (((1, 0), (1, 0), (1, 0)),))
FRAMES = [(2, 1, 0, (AND,), 1), (2, 2, 0, (XOR,), 1), (2, 2, 0, (AND, XOR), 0), (2, 1, 2, (AND,), 1), (2, 1, 2, (), 0)]


def like_sides(step, other):
    return step[0][0] != "fork" or step[0] == other[0]


def slow_probed(frame, processor):
    """All least lots probed, by all flat rows."""
    court = SlowCourt(frame, processor, tuple(range(10)))
    parted = {}

    def is_parted(near, far):
        """Whether some rows, with nothing unlike, part what two standings show."""
        known, waiting = {(near, far)}, [(near, far)]
        while waiting:
            pair = waiting.pop()
            for _, beats, more, behind in court.behind(pair):
                if beats != more:
                    return True
                if behind is not None and behind not in known:
                    known.add(behind)
                    waiting.append(behind)
        return False

    waiting = [((one, 0), (other, 0), frozenset()) for one, other in itertools.combinations(court.data, 2)]
    known, probed = set(waiting), set()
    while waiting:
        near, far, atoms = waiting.pop()
        if (near, far) not in parted:
            parted[(near, far)] = is_parted(near, far)
        if parted[(near, far)]:
            probed.add(atoms)
        for passes in court.passes.values():
            if near[0] in passes and far[0] in passes:
                (step, behind), (other, last) = passes[near[0]], passes[far[0]]
                if like_sides(step, other):
                    later = (behind, read_step(frame, processor, near[1], step)[1])
                    further = (last, read_step(frame, processor, far[1], other)[1])
                    found = (later, further, atoms | atoms_of(step, other))
                    if later != further and found not in known:
                        known.add(found)
                        waiting.append(found)
    least = [lot for lot in probed if not any(other < lot for other in probed)]
    return tuple(sorted((tuple(sorted(lot)) for lot in least), key=lambda lot: (len(lot), lot)))


def shows_probe(frame, processor, told):
    lot, program, rows, one, other = told
    if unlike_atoms(frame, program, one, other) != (lot, False):
        return False
    behind = [datum_behind(frame, program, datum) for datum in (one, other)]
    if unlike_atoms(frame, rows, *behind) != ((), False):
        return False
    states = [view_from(frame, processor, 0, program, datum)[1] for datum in (one, other)]
    views = [view_from(frame, processor, state, rows, datum)[0] for state, datum in zip(states, behind)]
    return views[0] != views[1]


class ProbeTest(unittest.TestCase):
    def test_against_all_rows(self):
        seen = set()
        for frame in FRAMES:
            draw = random.Random(f"27 {frame}")
            for _ in range(5 if frame[1] + frame[2] < 3 else 3):
                processor = kind_processor(draw, frame_events(frame), draw.randrange(2, 4), 0.2)
                told = probe_leaks(frame, processor)
                self.assertTrue(is_tupled(told))
                self.assertEqual(told, slow_probed(frame, processor), (frame, processor))
                leaks = least_leaks(frame, processor)
                self.assertTrue(all(any(set(leak) <= set(lot) for leak in leaks) for lot in told))
                self.check_within(draw, frame, processor, told)
                seen.add(told)
        self.assertGreater(len(seen), 6)

    def check_within(self, draw, frame, processor, probed):
        for _ in range(4):
            lot = tuple(atom for atom in range(10) if draw.random() < 0.7)
            told = probe_within(frame, processor, draw.choice((lot, list(lot))))
            within = [one for one in probed if set(one) <= set(lot)]
            self.assertEqual(told is None, not within)
            if told is not None:
                self.assertIn(told[0], within)
                self.assertTrue(is_tupled(told))
                self.assertTrue(shows_probe(frame, processor, told), told)
        self.assertIsNone(probe_within(frame, processor, []))

    def test_greater_frames(self):
        draw = random.Random(28)
        for frame in ((2, 2, 2, (XOR,), 1), (2, 2, 2, (AND, XOR), 1), (2, 2, 0, (XOR,), 2)):
            for _ in range(2):
                processor = kind_processor(draw, frame_events(frame), 3, 0.2)
                told = probe_leaks(frame, processor)
                self.check_within(draw, frame, processor, told)
                self.assertEqual(told == (), probe_within(frame, processor, tuple(range(10))) is None)

    def test_what_is_shown_at_once_is_not_probed(self):
        # One state keeps nothing in mind, so there is nothing that rows behind could show.
        for frame in FRAMES:
            draw = random.Random(f"28 {frame}")
            for _ in range(4):
                processor = kind_processor(draw, frame_events(frame), 1)
                self.assertEqual(probe_leaks(frame, processor), ())
                self.assertIsNone(probe_within(frame, processor, tuple(range(10))))
        # A state that keeps a value in mind, and shows it at a fence.
        frame = (2, 2, 0, (AND,), 0)
        rows = []
        for state in (0, 1):
            rows.append(tuple(
                (1, event[2]) if event[0] == "op" else (1 + state, 0) if event[0] == "fence" else (1, state)
                for event in frame_events(frame)))
        self.assertEqual(probe_leaks(frame, ((0, 0), tuple(rows))), ((0,),))
        told = probe_within(frame, ((0, 0), tuple(rows)), (0, 1))
        self.assertEqual((told[0], len(told[1]), len(told[2])), ((0,), 1, 1))

    def test_any_values(self):
        good = (SMALL, UP)
        wrong = {
            0: (None, (InvalidFrame, -1)), 1: (((4,), (0,)), (InvalidProcessor, 0)), 2: ([3, 3], (InvalidLot, 1))}
        try_wrong(self, probe_leaks, good, {1: InvalidProcessor})
        try_order(self, probe_leaks, good, {place: wrong[place] for place in (0, 1)})
        try_wrong(self, probe_within, good + ((),), {1: InvalidProcessor, 2: InvalidLot})
        try_order(self, probe_within, good + ((),), wrong)


class SlowOrder:
    """Pairs of double standings, by going through all flat rows."""

    def __init__(self, frame, one, other):
        self.frame, self.both = frame, (one, other)
        self.court = SlowCourt(frame, one, ())

    def read(self, number, state, step):
        return read_step(self.frame, self.both[number], state, step)

    def begin(self):
        return [((one, 0, 0), (other, 0, 0)) for one, other in itertools.combinations(self.court.data, 2)]

    def behind(self, pair):
        """(whether the one's beats are alike, the pair behind or None) where the other's are."""
        near, far = pair
        for passes in self.court.passes.values():
            if near[0] in passes and far[0] in passes:
                (step, behind), (other, last) = passes[near[0]], passes[far[0]]
                if like_sides(step, other):
                    reads = [[self.read(number, standing[1 + number], told) for number in (0, 1)]
                             for standing, told in ((near, step), (far, other))]
                    if reads[0][1][0] == reads[1][1][0]:
                        later = tuple(sorted([(datum,) + tuple(state for _, state in read)
                                              for datum, read in zip((behind, last), reads)]))
                        yield reads[0][0][0] == reads[1][0][0], None if later[0] == later[1] else later

    def least(self):
        known, level, steps = set(self.begin()), self.begin(), 0
        while level:
            steps += 1
            later = []
            for pair in level:
                for alike, behind in self.behind(pair):
                    if not alike:
                        return "more", steps
                    if behind is not None and behind not in known:
                        known.add(behind)
                        later.append(behind)
            level = later
        return "no more", tuple(sorted(known))

    def is_closed(self, pairs):
        known = set(pairs)
        return set(self.begin()) <= known and all(
            alike and (behind is None or behind in known) for pair in pairs for alike, behind in self.behind(pair))


def tells_more(frame, one, other, told):
    program, near, far = told
    steps = [run_steps(frame, program, datum) for datum in (near, far)]
    if not all(like_sides(step, further) for step, further in zip(*steps)) or len(steps[0]) != len(steps[1]):
        return False
    views = [[view_of(frame, processor, program, datum) for datum in (near, far)] for processor in (one, other)]
    return views[0][0] != views[0][1] and views[1][0] == views[1][1]


def couples(frame, many, seed=0):
    """Two processors: some, like ones, changed ones, sums."""
    draw = random.Random(f"{seed} {frame}")
    events = frame_events(frame)
    for _ in range(many):
        one = kind_processor(draw, events, draw.randrange(1, 3), 0.3)
        other = kind_processor(draw, events, draw.randrange(1, 3), 0.3)
        yield one, other
        yield one, one
        yield other, least_processor(frame, other)
        # All that the one tells is told by a loudest one of all atoms, too.
        yield one, loudest(frame, tuple(range(10)))
        yield quiet_processor(draw, len(events), 2), quiet_processor(draw, len(events), 2)


class OrderTest(unittest.TestCase):
    def test_against_all_rows(self):
        words = []
        for frame in FRAMES:
            for one, other in couples(frame, 2 if frame[1] + frame[2] < 3 else 1):
                paper, told = order_paper(frame, one, other), SlowOrder(frame, one, other).least()
                self.assertTrue(is_tupled(paper))
                self.assertEqual(paper[0], told[0], (frame, one, other))
                self.assertIs(order_holds(frame, one, other, paper), True)
                if told[0] == "no more":
                    self.assertEqual(paper, told)
                else:
                    self.assertTrue(tells_more(frame, one, other, paper[1:]))
                    self.assertEqual(len(run_steps(frame, paper[1], paper[2])), told[1])
                words.append(paper[0])
        self.assertGreater(min(words.count("more"), words.count("no more")), 8)

    def test_deeper_wrong_ways(self):
        draw, words = random.Random(31), []
        for frame in ((2, 2, 0, (XOR,), 2), (2, 1, 2, (AND,), 2)):
            events = frame_events(frame)
            for _ in range(6):
                rows = [kind_processor(draw, events, 2, 0.2)[1] for _ in range(2)]
                one, other = [((3, 3), tuple(tuple(
                    told if event[0].startswith("wrong") else (1, 0) for event, told in zip(events,
                    row)) for row in part))
                    for part in rows]
                paper, told = order_paper(frame, one, other), SlowOrder(frame, one, other).least()
                self.assertEqual(paper[0], told[0])
                self.assertTrue(paper == told or tells_more(frame, one, other, paper[1:]))
                words.append(paper[0])
        self.assertEqual(set(words), {"more", "no more"})

    def test_programs_tell_no_more(self):
        for frame in FRAMES[:4]:
            for one, other in couples(frame, 2, seed=1):
                if order_paper(frame, one, other)[0] == "no more":
                    for program in some_programs(frame, 8, seed=2):
                        for near, far in list(itertools.combinations(data_of(frame), 2))[::3]:
                            self.assertFalse(tells_more(frame, one, other, (unrolled(frame, program), near, far)))

    def test_a_promise_is_kept_exactly_if_a_loudest_one_tells_no_less(self):
        words = []
        for frame in FRAMES[:4] + [(2, 2, 0, (XOR,), 2)]:
            draw = random.Random(f"34 {frame}")
            for _ in range(3):
                processor = kind_processor(draw, frame_events(frame), 2, 0.2)
                for lot in ((), (0,), (1, 7), (2, 4, 6, 8), (0, 1, 2, 3, 6, 7)):
                    paper = order_paper(frame, processor, loudest(frame, lot))
                    self.assertEqual(paper[0] == "no more", is_kept(frame, processor, lot))
                    words.append(paper[0])
        self.assertGreater(min(words.count("more"), words.count("no more")), 8)

    def test_closed_lots(self):
        draw = random.Random(32)
        for frame in FRAMES[:1] + [(2, 2, 0, (AND,), 0)]:
            for one, other in couples(frame, 2, seed=3):
                slow = SlowOrder(frame, one, other)
                word, told = slow.least()
                standings = sorted(itertools.product(data_of(frame), range(len(one[0])), range(len(other[0]))))
                every = tuple(itertools.combinations(standings, 2))
                self.assertIs(order_holds(frame, one, other, ("no more", every)), slow.is_closed(every))
                if word == "no more":
                    for _ in range(6):
                        pairs = tuple(sorted(set(told) | set(draw.sample(every, min(2, len(every))))))
                        self.assertIs(order_holds(frame, one, other, ("no more", pairs)), slow.is_closed(pairs))
                    for pair in told:
                        self.assertIs(order_holds(frame, one, other, ("no more", tuple(set(told) - {pair}))), False)
                    self.assertIs(order_holds(frame, one, other, ("no more", told[::-1])), len(told) == 1)

    def test_changed_papers(self):
        frame = (2, 1, 0, (AND,), 0)
        ones = ((0,), (tuple((1 + event[2] if event[0] == "op" else 1, 0) for event in frame_events(frame)),))
        quiet = ((0,), (((1, 0),) * 7,))
        for one, other, word in ((ones, quiet, "more"), (quiet, ones, "no more"), (ones, ones, "no more")):
            paper = order_paper(frame, one, other)
            self.assertEqual(paper[0], word)
            slow = SlowOrder(frame, one, other)

            def expected(value):
                if not isinstance(value, tuple) or len(value) < 2 or value[0] != paper[0] or len(value) != len(paper):
                    return False
                if word == "more":
                    return judged(value)
                right = list(itertools.combinations([(datum, 0, 0) for datum in data_of(frame)], 2))
                if not isinstance(value[1], tuple) or not all(pair in right for pair in value[1]):
                    return False
                return list(value[1]) == sorted(set(value[1])) and slow.is_closed(value[1])

            def judged(value):
                return order_holds(frame, one, other, value)

            try_judge(self, judged, paper, expected)

    def test_more_by_hand(self):
        frame = (2, 2, 0, (XOR,), 1)
        ones = ((0,), (tuple((2, 0) if event[:3] == ("op", 0, 1) else (1, 0) for event in frame_events(frame)),))
        still = ((3,), (((1, 0),) * events_many(frame),))
        op = ("op", 0, 0, 0, 1)
        judge = lambda value: order_holds(frame, ones, still, value)
        for program, one, other, expected in (
                ((op,), (0, 0), (1, 0), True), ((op,), (1, 0), (0, 0), True), ((op,), (0, 0), (0, 1), False),
                ((op,), (0, 0), (0, 0), False), ((("loop", 2, (op,)),), (0, 0), (1, 0), True),
                ((), (0, 0), (1, 0), False),
                ((("fork", 0, (op,), (op,)),), (0, 0), (1, 0), False),
                ((("fork", 1, (op,), ()), op), (0, 0), (1, 0), True),
                ((("fence",),) * 9 + (op,), (0, 1), (1, 1), True)):
            self.assertIs(judge(("more", program, one, other)), expected, (program, one, other))
        for value in (("more", [op], (0, 0), (1, 0)), ("more", (op,), [0, 0], (1, 0)), ["more", (op,), (0, 0), (1, 0)],
                      ("more", (op,), (0, 0)), ("no more", (op,), (0, 0), (1, 0)), ("more", (op,), (False, 0), (1, 0))):
            self.assertIs(judge(value), False)
        self.assertIs(order_holds(frame, still, ones, ("more", (op,), (0, 0), (1, 0))), False)
        self.assertIs(order_holds(frame, ones, ones, ("more", (op,), (0, 0), (1, 0))), False)

    def test_any_values(self):
        good = (SMALL, UP, STILL)
        wrong = {
            0: (None, (InvalidFrame, -1)), 1: (((4,), (0,)), (InvalidProcessor, 0)),
            2: (((0,), ((),)), (InvalidProcessor, 1))}
        for function in (order_paper, views_paper):
            try_wrong(self, function, good, {1: InvalidProcessor, 2: InvalidProcessor})
            try_order(self, function, good, wrong)
        try_wrong(self, order_holds, good + (None,), {1: InvalidProcessor, 2: InvalidProcessor})
        try_order(self, order_holds, good + (None,), wrong)


def slow_views(frame, one, other):
    court = SlowCourt(frame, one, ())
    level = [(datum, 0, 0) for datum in court.data]
    known, steps = set(level), 0
    while level:
        steps += 1
        later = []
        for datum, state, further in level:
            for passes in court.passes.values():
                if datum in passes:
                    step, behind = passes[datum]
                    beats, last = read_step(frame, one, state, step)
                    more, final = read_step(frame, other, further, step)
                    if beats != more:
                        return "unlike", steps
                    if (behind, last, final) not in known:
                        known.add((behind, last, final))
                        later.append((behind, last, final))
        level = later
    return "alike", tuple(sorted(known))


class ViewsTest(unittest.TestCase):
    def test_against_all_rows(self):
        words = []
        for frame in FRAMES + [(2, 2, 0, (XOR,), 2), (2, 2, 2, (XOR,), 1)]:
            draw = random.Random(f"33 {frame}")
            for one, other in list(couples(frame, 1, seed=4)) + [(some_processor(draw, events_many(frame), 2),) * 2]:
                paper, told = views_paper(frame, one, other), slow_views(frame, one, other)
                self.assertTrue(is_tupled(paper))
                self.assertEqual(paper[0], told[0])
                words.append(paper[0])
                if told[0] == "alike":
                    self.assertEqual(paper, told)
                    self.assertEqual(order_paper(frame, one, other)[0], "no more")
                    self.assertEqual(order_paper(frame, other, one)[0], "no more")
                else:
                    _, program, datum = paper
                    self.assertEqual(len(run_steps(frame, program, datum)), told[1])
                    self.assertNotEqual(view_of(frame, one, program, datum), view_of(frame, other, program, datum))
        self.assertGreater(min(words.count("alike"), words.count("unlike")), 8)

    def test_states_told_otherwise(self):
        frame = (2, 1, 0, (AND,), 1)
        draw = random.Random(34)
        for _ in range(6):
            processor = kind_processor(draw, frame_events(frame), 3)
            twice = put_beside(frame, processor, ((0,), (((1, 0),) * events_many(frame),)))
            self.assertEqual(views_paper(frame, processor, least_processor(frame, processor))[0], "alike")
            self.assertEqual(views_paper(frame, processor, twice)[0], "unlike")
            # With one beat more for each event both tell the same, where all guess alike.
            if len(set(processor[0])) == 1:
                self.assertEqual(order_paper(frame, processor, twice)[0], "no more")

    def test_like_promises_and_unlike_views(self):
        self.assertEqual(views_paper(SMALL, UP, STILL), ("unlike", (("fork", 0, (), ()),), (1,)))
        self.assertEqual(views_paper(SMALL, UP, UP), ("alike", (((0,), 0, 0), ((1,), 0, 0))))
        self.assertEqual(order_paper(SMALL, UP, STILL), ("no more", ((((0,), 0, 0), ((1,), 0, 0)),)))


if __name__ == "__main__":
    unittest.main()
