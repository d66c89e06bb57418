"""[38], [39], [40]: clocks side by side, beside every guesser, one clock."""

import itertools
import random
import unittest

from leastpromise.court import court_paper, is_kept
from leastpromise.crossings import least_lots
from leastpromise.errors import (
    InvalidDatum, InvalidFrame, InvalidLot, InvalidProcessor, InvalidProgram, InvalidWhole, Refused)
from leastpromise.events import events_many, frame_events, need_processor, view_of
from leastpromise.leaks import least_leaks
from leastpromise.processors import put_beside
from leastpromise.runs import run_steps, trace_of
from leastpromise.sides import (
    beside_guesser, guarded_holds, guarded_paper, is_guarded, partner, stands_hold, stands_paper, sure_holds,
    sure_paper,
    whole_holds, whole_leaks, whole_paper, whole_view)
from leastpromise.stretches import guesser_of, parting_of
from tests.samples import (
    AND, ANY, SUM3, XOR, data_of, is_tupled, kind_processor, outcome, some_processor, some_programs, try_judge,
    try_order,
    try_wrong, with_part)
from tests.slow import slow_agree, slow_pass, slow_rows

SMALL = (2, 1, 0, (), 0)
UP = ((0,), (((1, 0), (1, 0), (2, 0)),))
DOWN = ((0,), (((1, 0), (2, 0), (1, 0)),))
STILL = ((0,), (((1, 0), (1, 0), (1, 0)),))
FRAMES = [(2, 1, 0, (AND,), 1), (2, 2, 0, (XOR,), 1), (2, 1, 2, (AND,), 1), (2, 1, 0, (XOR,), 2), (2, 2, 0, (AND,), 0)]
LOTS = [(), (0,), (1,), (6,), (0, 6), (0, 1, 6), (0, 1, 7), (2, 4, 8), (0, 1, 2, 3, 4, 5), tuple(range(10))]


def some(draw, frame, states, parts=0.3):
    return kind_processor(draw, frame_events(frame), states, parts)


def slow_view(frame, guesser, parts, steps):
    """The words taken one by one: the guesser's guesses bring events, each part reads them."""
    events = frame_events(frame)
    now, states, view = 0, [0] * len(parts), []
    for event, wrong in steps:
        guess, beats = guesser[0][now], [0] * len(parts)
        is_read = event[0] == "fork" and guess in ((2, 3) if event[1] == 0 else (1, 3))
        for read in (wrong if is_read else ()) + (event,):
            number = events.index(read)
            now = guesser[1][now][number][1]
            for at, part in enumerate(parts):
                more, states[at] = part[1][states[at]][number]
                beats[at] += more
        view.append(tuple(beats))
    return tuple(view)


def sides_of(steps):
    return [step[0] for step in steps if step[0][0] == "fork"]


class ClocksTest(unittest.TestCase):
    def test_the_printed_example(self):
        self.assertEqual(whole_view(SMALL, UP, [UP, DOWN], (("fork", 0, (), ()),), (1,)), ((2, 1),))

    def test_views(self):
        for frame in FRAMES + [(3, 1, 0, (SUM3,), 2)]:
            draw = random.Random(f"38 {frame}")
            for program in some_programs(frame, 12, seed=38):
                guesser, parts = some(draw, frame,
                    2), [some(draw, frame, draw.randrange(1, 4)) for _ in range(draw.randrange(1, 5))]
                for datum in data_of(frame)[::3]:
                    told = whole_view(frame, guesser, parts, program, datum)
                    self.assertTrue(is_tupled(told))
                    self.assertEqual(told, slow_view(frame, guesser, parts, run_steps(frame, program, datum)))
                    self.assertEqual(told, whole_view(frame, guesser, tuple(parts), program, datum))
                    beside = [beside_guesser(frame, guesser, part) for part in parts]
                    self.assertEqual(told, tuple(zip(*[view_of(frame, part, program, datum) for part in beside])))
                    self.assertEqual(
                        tuple((beats,) for beats in view_of(frame, guesser, program, datum)),
                        whole_view(frame, guesser, [guesser], program, datum))

    def test_beside(self):
        for frame in FRAMES:
            draw = random.Random(f"39 {frame}")
            guesser, part = some(draw, frame, 3), some(draw, frame, 3)
            told = beside_guesser(frame, guesser, part)
            need_processor(frame, told)
            self.assertTrue(is_tupled(told))
            # Numbered as put_beside numbers them, with the part's beats alone.
            both = put_beside(frame, guesser, part)
            self.assertEqual(told[0], both[0])
            self.assertEqual([[state for _, state in row] for row in told[1]],
                [[state for _, state in row] for row in both[1]])
            pairs, at = [(0, 0)], 0
            while at < len(pairs):
                one, other = pairs[at]
                for (_, later), (beats, last) in zip(guesser[1][one], part[1][other]):
                    if (later, last) not in pairs:
                        pairs.append((later, last))
                row = tuple(
                    (beats, pairs.index((later, last))) for (_, later), (beats, last) in zip(guesser[1][one],
                    part[1][other]))
                self.assertEqual((told[0][at], told[1][at]), (guesser[0][one], row))
                at += 1
            self.assertEqual(len(told[0]), len(pairs))

    def test_sixty_states_and_more(self):
        ring = lambda many: ((0,) * many, tuple(((1, (state + 1) % many),) * 3 for state in range(many)))
        for one, other, expected in ((60, 1, "told"), (1, 60, "told"), (12, 5, "told"), (60, 60, "told"),
                (61, 1, InvalidProcessor), (8, 9, Refused), (60, 7, Refused)):
            for function, args in (
                    (beside_guesser, (ring(one), ring(other))), (whole_paper, (ring(one), [ring(other)], ())),
                    (whole_leaks, (ring(one), [STILL, ring(other)])),
                    (whole_holds, (ring(one), [ring(other)], (), None))):
                told = outcome(function, SMALL, *args)
                self.assertEqual(told[0], expected, (one, other, function))
                if expected is Refused:
                    self.assertEqual(told, (Refused, "states"))
            if one < 61:
                self.assertEqual(whole_view(SMALL, ring(one), [ring(other)] * 4, (("fence",),) * 3, (0,)),
                    ((1,) * 4,) * 3)
        # Errors of lots come ahead of too many states.
        self.assertEqual(outcome(whole_paper, SMALL, ring(60), [ring(7)], [10]), (InvalidLot, 0))
        self.assertEqual(outcome(whole_holds, SMALL, ring(60), [ring(7)], [10], None), (InvalidLot, 0))
        self.assertEqual(outcome(whole_paper, SMALL, ring(60), [ring(7), 0], ()), (InvalidWhole, 1))

    def test_papers(self):
        words = []
        for frame in FRAMES:
            draw = random.Random(f"40 {frame}")
            for _ in range(6):
                guesser, parts = some(draw, frame,
                    2), [some(draw, frame, draw.randrange(1, 3), 0.15) for _ in range(draw.randrange(1, 4))]
                beside = [beside_guesser(frame, guesser, part) for part in parts]
                for lot in draw.sample(LOTS, 3):
                    paper = whole_paper(frame, guesser, parts, lot)
                    kept = [is_kept(frame, part, lot) for part in beside]
                    self.assertEqual(paper[0], "kept" if all(kept) else "broken")
                    self.assertTrue(is_tupled(paper))
                    self.assertIs(whole_holds(frame, guesser, parts, lot, paper), True)
                    if paper[0] == "kept":
                        self.assertEqual(paper[1], tuple(court_paper(frame, part, lot)[1] for part in beside))
                    else:
                        _, number, program, one, other = paper
                        self.assertEqual(trace_of(frame, program, one, lot), trace_of(frame, program, other, lot))
                        views = [view_of(frame, beside[number], program, datum) for datum in (one, other)]
                        self.assertNotEqual(*views)
                    words.append(paper[0])
        self.assertGreater(min(words.count("kept"), words.count("broken")), 10)

    def test_changed_papers(self):
        for guesser, parts in ((UP, [STILL]), (STILL, [UP, STILL])):
            paper = whole_paper(SMALL, guesser, parts, ())
            self.assertEqual(paper[0], "kept")
            try_judge(self, lambda value: whole_holds(SMALL, guesser, parts, (), value), paper,
                lambda value: value == paper)
        frame = (2, 2, 0, (XOR,), 0)
        ones = ((0,), (tuple((1 + event[2] if event[0] == "op" else 1, 0) for event in frame_events(frame)),))
        still = ((0,), (((1, 0),) * events_many(frame),))
        paper = whole_paper(frame, still, [still, ones], ())
        self.assertEqual(paper[:2], ("broken", 1))
        judge = lambda value: whole_holds(frame, still, [still, ones], (), value)
        try_judge(self, judge, paper)
        self.assertIs(judge(("broken", 0) + paper[2:]), False)
        self.assertIs(judge(("broken", 2) + paper[2:]), False)
        self.assertIs(judge(("broken", 1, (("op", 0, 0, 0, 1),), (1, 0), (0, 0))), True)
        self.assertIs(judge(("broken", 1, (("loop", 3, (("op", 0, 0, 0, 1),)),), (0, 1), (1, 1))), True)
        self.assertIs(judge(("broken", 1, (("op", 0, 0, 1, 1),), (0, 0), (1, 0))), False)

    def test_leaks(self):
        seen = set()
        for frame in FRAMES:
            draw = random.Random(f"41 {frame}")
            for _ in range(4):
                guesser, parts = some(draw, frame, 2), [some(draw, frame, 2, 0.15) for _ in range(draw.randrange(1, 4))]
                leaks = [leak for part in parts for leak in least_leaks(frame, beside_guesser(frame, guesser, part))]
                told = whole_leaks(frame, guesser, parts)
                self.assertEqual(told, least_lots(10, leaks))
                seen.add(told)
                # A promise is kept by the whole exactly if it has an atom of each.
                for lot in LOTS:
                    kept = all(set(leak) & set(lot) for leak in told)
                    self.assertEqual(whole_paper(frame, guesser, parts, lot)[0], "kept" if kept else "broken")
        self.assertGreater(len(seen), 5)

    def test_any_values(self):
        good = (SMALL, UP, [UP, DOWN])
        wrong = {0: (None, (InvalidFrame, -1)), 1: (((4,), (0,)), (InvalidProcessor, 0)),
            2: ([UP, 0], (InvalidWhole, 1))}
        for parts, at in (
                (None, -1), ([], -1), ((), -1), ([UP] * 5, -1), ("", -1), (0, -1), ([0], 0), ([UP, UP, None, 0], 2),
                ([UP, list(UP)], 1),
                ([UP, ((4,), UP[1])], 1), (UP, 0), ([((0,), (((1, 0),) * 4,))], 0), ([0] * 5, -1)):
            for function, rest in ((whole_leaks, ()), (whole_paper, ((),)), (whole_view, ((), (0,))),
                    (whole_holds, ((), None))):
                self.assertEqual(outcome(function, SMALL, UP, parts, *rest), (InvalidWhole, at), (function, parts))
                self.assertEqual(outcome(function, SMALL, None, parts, *rest), (InvalidProcessor, -1))
        try_wrong(self, whole_leaks, good, {1: InvalidProcessor, 2: InvalidWhole})
        try_order(self, whole_leaks, good, wrong)
        lot = {3: ([3, 3], (InvalidLot, 1))}
        try_wrong(self, whole_paper, good + ((),), {1: InvalidProcessor, 2: InvalidWhole, 3: InvalidLot})
        try_order(self, whole_paper, good + ((),), {**wrong, **lot})
        try_order(self, whole_holds, good + ((), None), {**wrong, **lot})
        try_order(self, whole_view, good + ((), (0,)),
            {**wrong, 3: ((0,), (InvalidProgram, 0)), 4: ([0], (InvalidDatum, -1))})
        try_wrong(self, beside_guesser, (SMALL, UP, DOWN), {1: InvalidProcessor, 2: InvalidProcessor})
        try_order(self, beside_guesser, (SMALL, UP, DOWN), {
            0: (None, (InvalidFrame, -1)), 1: (((4,), (0,)), (InvalidProcessor, 0)),
            2: (((0,), ((),)), (InvalidProcessor, 1))})


class SlowStretches:
    """Stretches, by all flat rows, the words taken one by one."""

    def __init__(self, frame, parts, lot, guarded):
        self.frame, self.parts, self.lot, self.guarded = frame, parts, lot, guarded
        self.events = frame_events(frame)
        self.passes = []
        for row in slow_rows(frame):
            told = {datum: slow_pass(frame, row, datum) for datum in data_of(frame)}
            self.passes.append({datum: found for datum, found in told.items() if found is not None})

    def begin(self):
        state = 0 if len(self.parts) == 1 else (0, 0)
        return [(one, other, state, state, 0) for one, other in itertools.combinations(data_of(self.frame), 2)]

    def read(self, states, reads):
        """(beats, or the one's less the other's, states behind)."""
        now, total = [states] if len(self.parts) == 1 else list(states), 0
        for event in reads:
            for at, part in enumerate(self.parts):
                beats, now[at] = part[1][now[at]][self.events.index(event)]
                total += beats if at == 0 else -beats
        return total, now[0] if len(self.parts) == 1 else tuple(now)

    def behind(self, stretch):
        one, other, near, far, parted = stretch
        for passes in self.passes:
            if one not in passes or other not in passes:
                continue
            (step, datum), (further, last) = passes[one], passes[other]
            if step[0][0] == "fork" and step[0] != further[0]:
                continue
            if self.lot is not None and not slow_agree(step, further, self.lot):
                continue
            ways = itertools.product((0, 1), repeat=2) if parted else ((0, 0), (1, 1))
            for way, other_way in ways:
                reads = [told[1] * is_read + (told[0],) for told, is_read in ((step, way), (further, other_way))]
                (beats, state), (more, final) = self.read(near, reads[0]), self.read(far, reads[1])
                now = 0 if self.guarded else 1 if parted or reads[0] != reads[1] else 0
                yield beats == more, (datum, last, state, final, now)

    def least(self):
        known, waiting = set(self.begin()), self.begin()
        while waiting:
            for alike, stretch in self.behind(waiting.pop()):
                if not alike:
                    return None
                if stretch not in known:
                    known.add(stretch)
                    waiting.append(stretch)
        return tuple(sorted(known))

    def is_sure(self, stretches):
        known = set(stretches)
        if self.guarded and any(stretch[4] for stretch in known):
            return False
        return set(self.begin()) <= known and all(alike and later in known for one in known for alike, later in self.behind(one))


def slow_guarded(frame, guesser, lot):
    """By all flat rows: data of one trace have each wrong way that has events read by both or by neither."""
    events, rows = frame_events(frame), slow_rows(frame)
    known = {((one, 0), (other, 0)) for one, other in itertools.combinations(data_of(frame), 2)}
    waiting = list(known)
    while waiting:
        standings = waiting.pop()
        for row in rows:
            told = [slow_pass(frame, row, datum) for datum, _ in standings]
            if None in told or told[0][0][0][0] == "fork" and told[0][0][0] != told[1][0][0]:
                continue
            if not slow_agree(told[0][0], told[1][0], lot):
                continue
            later, reads = [], []
            for ((event, wrong), behind), (_, state) in zip(told, standings):
                is_read = event[0] == "fork" and guesser[0][state] in ((2, 3), (1, 3))[event[1]]
                reads.append(is_read)
                for read in (wrong if is_read else ()) + (event,):
                    state = guesser[1][state][events.index(read)][1]
                later.append((behind, state))
            if told[0][0][1] and reads[0] != reads[1]:
                return False
            if tuple(later) not in known:
                known.add(tuple(later))
                waiting.append(tuple(later))
    return True


def is_broken(frame, part, lot, told):
    guesser, program, one, other = told
    need_processor(frame, guesser)
    if trace_of(frame, program, one, lot) != trace_of(frame, program, other, lot):
        return False
    return whole_view(frame, guesser, [part], program, one) != whole_view(frame, guesser, [part], program, other)


def parts_of(frame, many, seed):
    draw = random.Random(f"{seed} {frame}")
    for _ in range(many):
        yield some(draw, frame, draw.randrange(1, 3), 0.2)


class SureTest(unittest.TestCase):
    def test_against_all_rows(self):
        words = []
        for frame in FRAMES:
            draw = random.Random(f"42 {frame}")
            for part in parts_of(frame, 5, 42):
                for lot in draw.sample(LOTS, 3):
                    for paper_of, judge, guarded in ((sure_paper, sure_holds, False),
                            (guarded_paper, guarded_holds, True)):
                        paper = paper_of(frame, part, lot)
                        least = SlowStretches(frame, (part,), lot, guarded).least()
                        self.assertTrue(is_tupled(paper))
                        self.assertIs(judge(frame, part, lot, paper), True, (frame, part, lot, paper))
                        words.append((guarded, paper[0]))
                        if least is not None:
                            self.assertEqual(paper, ("sure", least))
                            continue
                        self.assertEqual(paper[0], "broken")
                        self.assertTrue(is_broken(frame, part, lot, paper[1:]), (frame, part, lot, paper))
                        if guarded:
                            self.assertTrue(is_guarded(frame, paper[1], lot))
                            self.assertTrue(slow_guarded(frame, paper[1], lot))
        self.assertTrue(all(words.count((guarded, word)) > 10 for guarded in (True, False) for word in ("sure",
            "broken")))

    def test_beside_all_guessers(self):
        for frame in FRAMES[:4]:
            draw = random.Random(f"43 {frame}")
            for part in parts_of(frame, 5, 43):
                for lot in LOTS:
                    sure, guarded = sure_paper(frame, part, lot)[0] == "sure", guarded_paper(frame, part,
                        lot)[0] == "sure"
                    self.assertTrue(guarded or not sure)
                    for _ in range(3 if guarded else 0):
                        guesser = some(draw, frame, draw.randrange(1, 3))
                        if sure or is_guarded(frame, guesser, lot):
                            self.assertTrue(is_kept(frame, beside_guesser(frame, guesser, part), lot))

    def test_deeper_wrong_ways(self):
        # What parts two guessers may stand behind events that are alike, within a wrong way.
        frame = (2, 1, 2, (AND,), 2)
        draw, parted = random.Random(44), 0
        for _ in range(25):
            part = some(draw, frame, 2, 0.1)
            for lot in ((0, 1), (2, 3, 5), (0, 1, 2, 3, 4), (6, 8)):
                paper = sure_paper(frame, part, lot)
                self.assertIs(sure_holds(frame, part, lot, paper), True)
                if paper[0] == "broken":
                    self.assertTrue(is_broken(frame, part, lot, paper[1:]))
                    parted += len(paper[1][0]) > 3
        self.assertGreater(parted, 5)

    def test_only_late_guesses_show(self):
        # The part shows nothing but how many wrong events were read: so guesses that hang on a value show it.
        frame = (2, 2, 0, (AND,), 1)
        part = ((0,), (((1, 0),) * events_many(frame),))
        self.assertEqual(guarded_paper(frame, part, ())[0], "sure")
        self.assertEqual(sure_paper(frame, part, ())[0], "broken")
        self.assertEqual(sure_paper(frame, part, (0, 1))[0], "broken")
        self.assertEqual(sure_paper(frame, part, (0, 1, 6, 7))[0], "sure")
        self.assertIs(is_guarded(frame, part, ()), True)
        guesser = sure_paper(frame, part, ())[1]
        self.assertIs(is_guarded(frame, guesser, ()), False)
        self.assertIs(guarded_holds(frame, part, (), sure_paper(frame, part, ())), False)

    def test_a_part_of_one_beat_keeps_just_if_its_guesser_is_guarded(self):
        for frame in FRAMES[:4]:
            draw = random.Random(f"45 {frame}")
            still = ((0,), (((1, 0),) * events_many(frame),))
            for _ in range(6):
                guesser = some(draw, frame, draw.randrange(1, 4))
                for lot in LOTS:
                    told = is_guarded(frame, guesser, lot)
                    self.assertIs(told, slow_guarded(frame, guesser, lot), (frame, guesser, lot))
                    if not told:
                        self.assertEqual(whole_paper(frame, guesser, [still], lot)[0], "broken")

    def test_any_sure_lots(self):
        draw, seen = random.Random(46), []
        for frame in FRAMES[:1] + [(2, 2, 0, (AND,), 0)]:
            for part in list(parts_of(frame, 3, 46)) + [((0, 0),
                    (((1, 0),) * events_many(frame), ((1, 1),) * events_many(frame)))]:
                states = range(len(part[0]))
                every = sorted(itertools.product(data_of(frame), data_of(frame), states, states, (0, 1)))
                for lot in LOTS[::2]:
                    for judge, guarded in ((sure_holds, False), (guarded_holds, True)):
                        slow = SlowStretches(frame, (part,), lot, guarded)
                        least = slow.least()
                        tried = [tuple(every), tuple(stretch for stretch in every if stretch[4] == 0)]
                        for _ in range(5 if least is not None else 0):
                            tried.append(tuple(sorted(set(least) | set(draw.sample(every, 2)))))
                            tried.append(tuple(sorted(set(least) - {draw.choice(least)})))
                        for value in tried:
                            told = judge(frame, part, lot, ("sure", value))
                            self.assertIs(told, slow.is_sure(value))
                            seen.append(told)
        self.assertGreater(min(seen.count(True), seen.count(False)), 15)

    def test_changed_papers(self):
        frame = (2, 1, 0, (AND,), 1)
        still = ((0,), (((1, 0),) * events_many(frame),))
        slow = {guarded: SlowStretches(frame, (still,), (), guarded) for guarded in (True, False)}

        def expected(guarded, value):
            if not isinstance(value, tuple) or len(value) != 2 or value[0] != "sure" or not isinstance(value[1], tuple):
                return False
            right = list(itertools.product(data_of(frame), data_of(frame), (0,), (0,), (0, 1)))
            if not all(one in right for one in value[1]):
                return False
            return list(value[1]) == sorted(set(value[1])) and slow[guarded].is_sure(value[1])

        for paper_of, judge, guarded in ((sure_paper, sure_holds, False), (guarded_paper, guarded_holds, True)):
            paper = paper_of(frame, still, ())
            self.assertEqual(paper[0], "sure")
            try_judge(self, lambda value: judge(frame, still, (), value), paper, lambda value: expected(guarded, value))
        wide = (2, 2, 0, (AND,), 1)
        part = ((0,), (((1, 0),) * events_many(wide),))
        # What is parted is so or not, and of guarded guessers it never is.
        lot = (0, 1, 6, 7)
        least = sure_paper(wide, part, lot)[1]
        every = tuple(sorted(itertools.product(data_of(wide), data_of(wide), (0,), (0,), (0, 1))))
        for judge, guarded in ((sure_holds, False), (guarded_holds, True)):
            slow_one = SlowStretches(wide, (part,), lot, guarded)
            for value in (least, every, tuple(one for one in every if one[4] == 0)):
                self.assertIs(judge(wide, part, lot, ("sure", value)), slow_one.is_sure(value))
                for parted in (-1, True, None):
                    changed = (value[0][:4] + (parted,),) + value[1:]
                    self.assertIs(judge(wide, part, lot, ("sure", changed)), False)
        told = (((0,), (1,), 0, 0, 0), ((1,), (1,), 0, 0, 1), ((1,), (1,), 0, 0, 2))
        self.assertIs(sure_holds(SMALL, UP, (), ("sure", told[:2])), True)
        self.assertIs(sure_holds(SMALL, UP, (), ("sure", told)), False)
        self.assertIs(guarded_holds(SMALL, UP, (), ("sure", told[:1])), True)
        self.assertIs(guarded_holds(SMALL, UP, (), ("sure", told[:2])), False)
        paper = sure_paper(wide, part, ())
        try_judge(self, lambda value: sure_holds(wide, part, (), value), paper)
        self.assertIs(sure_holds(wide, part, (), ("broken", 0) + paper[2:]), False)
        # Data that go unlike sides show nothing that is to be kept.
        sides = ((0,), (tuple((2 if event == ("fork", 1) else 1, 0) for event in frame_events(wide)),))
        for judge in (sure_holds, guarded_holds):
            for program, expected in (((("fork", 0, (), ()),), False), ((("op", 0, 1, 0, 0), ("fork", 1, (), ())), False)):
                self.assertIs(judge(wide, sides, (), ("broken", sides, program, (0, 0), (1, 0))), expected)
        ones = ((0,), (tuple((1 + event[2] if event[0] == "op" else 1, 0) for event in frame_events(wide)),))
        for judge in (sure_holds, guarded_holds):
            told = ("broken", ones, (("op", 0, 1, 0, 0),), (0, 0), (1, 0))
            self.assertIs(judge(wide, ones, (), told), True)
            self.assertIs(judge(wide, ones, (0,), told), False)
            self.assertIs(judge(wide, ones, (6,), told), True)
            self.assertIs(judge(wide, ones, (), told[:4] + told[3:4]), False)

    def test_guessers_of_sixty_states_are_judged(self):
        frame = (2, 2, 0, (AND,), 1)
        many = events_many(frame)
        part = ((0, 0), (((1, 1),) * many, ((1, 0),) * many))
        guesser, program, one, other = sure_paper(frame, part, ())[1:]
        more = 60 - len(guesser[0])
        great = (guesser[0] + (0,) * more, guesser[1] + (((1, 59),) * many,) * more)
        self.assertIs(sure_holds(frame, part, (), ("broken", great, program, one, other)), True)
        self.assertIs(is_guarded(frame, great, ()), False)
        ring = ((3,) * 60, tuple(((1, (state + 1) % 60),) * many for state in range(60)))
        self.assertIs(is_guarded(frame, ring, ()), True)
        # It goes round by another way behind operations on a 1.
        moves = [2 if event[0] == "op" and event[2] else 1 for event in frame_events(frame)]
        steps = tuple(tuple((1, (state + move) % 60) for move in moves) for state in range(60))
        halves = ((0,) * 30 + (3,) * 30, steps)
        self.assertIs(is_guarded(frame, halves, (0,)), True)
        self.assertIs(is_guarded(frame, halves, (1, 6)), False)

    def test_any_values(self):
        good = (SMALL, UP, ())
        wrong = {0: (None, (InvalidFrame, -1)), 1: (((4,), (0,)), (InvalidProcessor, 0)), 2: ([3, 3], (InvalidLot, 1))}
        for function in (sure_paper, guarded_paper, is_guarded):
            try_wrong(self, function, good, {1: InvalidProcessor, 2: InvalidLot})
            try_order(self, function, good, wrong)
        for function in (sure_holds, guarded_holds):
            try_wrong(self, function, good + (None,), {1: InvalidProcessor, 2: InvalidLot})
            try_order(self, function, good + (None,), wrong)


def reads_of(frame, guesser, steps):
    """For each step whether its wrong events are read."""
    events, state, told = frame_events(frame), 0, []
    for event, wrong in steps:
        is_read = event[0] == "fork" and guesser[0][state] in ((2, 3), (1, 3))[event[1]]
        told.append(is_read)
        for read in (wrong if is_read else ()) + (event,):
            state = guesser[1][state][events.index(read)][1]
    return told


class GuesserTest(unittest.TestCase):
    def test_it_brings_what_is_asked_for(self):
        seen = {}
        for frame in ((2, 2, 0, (XOR,), 3), (2, 1, 2, (AND,), 2), (2, 2, 0, (AND, XOR), 1)):
            draw, rows = random.Random(f"44 {frame}"), slow_rows(frame)
            forks = [row for row in rows if row[0] == "fork"]
            while sum(seen.get((frame, kind), 0) for kind in ("none", "right", "wrong", "later")) < 250:
                program = tuple(draw.choice(draw.choice((rows, forks))) for _ in range(draw.randrange(1, 6)))
                data = draw.sample(data_of(frame), 2)
                runs = [run_steps(frame, program, datum) for datum in data]
                if sides_of(runs[0]) != sides_of(runs[1]) or len(runs[0]) > len(program):
                    continue
                reads, parted = [], False
                for step, other in zip(*runs):
                    read = draw.random() < 0.7 and step[0][0] == "fork"
                    reads.append((read, draw.random() < 0.5 and other[0][0] == "fork" if parted else read))
                    parted = parted or step[0] != other[0] or read and step[1] != other[1]
                parting = parting_of(runs, reads)
                kind = "none" if parting is None else ("later" if parting[1] else "wrong") if parting[3] else "right"
                seen[(frame, kind)] = seen.get((frame, kind), 0) + 1
                guesser = guesser_of(frame, reads, parting)
                need_processor(frame, guesser)
                told = [reads_of(frame, guesser, steps) for steps in runs]
                self.assertEqual(list(zip(*told)), reads, (program, data, reads, parting))
        self.assertTrue(all(seen[(frame, kind)] > 3 for frame, kind in seen), seen)
        self.assertEqual({kind for _, kind in seen}, {"none", "right", "wrong", "later"})

    def test_no_more_than_sixty_states(self):
        reads = [(False, False)] * 60
        self.assertEqual(len(guesser_of(SMALL, reads, None)[0]), 60)
        self.assertEqual(outcome(guesser_of, SMALL, reads + reads[:1], None), (Refused, "states"))


class OneClockTest(unittest.TestCase):
    def test_partners(self):
        for frame in FRAMES + [(3, 1, 0, (SUM3,), 2), (2, 2, 2, (XOR,), 1), (2, 1, 0, (), 1)]:
            draw = random.Random(f"47 {frame}")
            for _ in range(4):
                part = some_processor(draw, events_many(frame), draw.randrange(1, 3))
                told = partner(frame, part)
                need_processor(frame, told)
                self.assertTrue(is_tupled(told))
                self.assertLessEqual(len(told[0]), (frame[4] + 1) * len(part[0]))
                for program in some_programs(frame, 6, seed=47):
                    sums = {True: set(), False: set()}
                    for guesser in [some(draw, frame, 2), part, told]:
                        for datum in data_of(frame)[::2]:
                            view = whole_view(frame, guesser, [part, told], program, datum)
                            for step, beats in zip(run_steps(frame, program, datum), view):
                                sums[step[0][0] == "fork"].add(sum(beats))
                    self.assertTrue(all(len(part) <= 1 for part in sums.values()), sums)

    def test_both_keep_the_empty_promise(self):
        frame = (2, 1, 0, (AND,), 1)
        draw = random.Random(48)
        for _ in range(4):
            part, guesser = some(draw, frame, 2), some(draw, frame, 2)
            other = partner(frame, part)
            both = [beside_guesser(frame, guesser, one) for one in (part, other)]
            self.assertTrue(is_kept(frame, put_beside(frame, *both), ()))

    def test_partners_of_sixty_states(self):
        ring = ((0,) * 60, tuple(((1 + state % 3, (state + 1) % 60),) * 3 for state in range(60)))
        told = partner(SMALL, ring)
        self.assertEqual(len(told[0]), 60)
        deep = (2, 1, 0, (AND,), 1)
        long = ((0,) * 60, tuple(((1 + state % 3, (state + 1) % 60),) * events_many(deep) for state in range(60)))
        self.assertEqual(outcome(partner, deep, long), (Refused, "states"))

    def test_against_all_rows(self):
        words = []
        for frame in FRAMES:
            draw = random.Random(f"49 {frame}")
            for part in parts_of(frame, 4, 49):
                twice = ((0,), (((2, 0),) * events_many(frame),))
                late = tuple(tuple((beats + (event[0] == "fence"), state) for event, (beats,
                    state) in zip(frame_events(frame), row)) for row in part[1])
                for other in (part, some(draw, frame, 2), (part[0], late), put_beside(frame, part, twice)):
                    paper = stands_paper(frame, part, other)
                    least = SlowStretches(frame, (part, other), None, False).least()
                    self.assertTrue(is_tupled(paper))
                    self.assertIs(stands_hold(frame, part, other, paper), True)
                    if least is not None:
                        self.assertEqual(paper, ("stands", least))
                    else:
                        self.assertEqual(paper[0], "fails")
                        self.check_fails(frame, part, other, paper[1:])
                    words.append(paper[0])
        self.assertGreater(min(words.count("stands"), words.count("fails")), 15)

    def check_fails(self, frame, part, other, told):
        guesser, program, one, more = told
        need_processor(frame, guesser)
        runs = [run_steps(frame, program, datum) for datum in (one, more)]
        self.assertEqual(sides_of(runs[0]), sides_of(runs[1]))
        views = [whole_view(frame, guesser, [part, other], program, datum) for datum in (one, more)]
        self.assertNotEqual(*[[beats - less for beats, less in view] for view in views])

    def test_one_stands_for_the_other_in_wholes(self):
        for frame in FRAMES[:4]:
            draw = random.Random(f"50 {frame}")
            for part in parts_of(frame, 3, 50):
                late = tuple(tuple((beats + 2 * (event[0] == "fence"), state) for event, (beats,
                    state) in zip(frame_events(frame), row)) for row in part[1])
                other = (part[0], late)
                self.assertEqual(stands_paper(frame, part, other)[0], "stands")
                for _ in range(2):
                    guesser, beside = some(draw, frame, 2), some(draw, frame, 1)
                    clocks = [
                        put_beside(frame, beside_guesser(frame, guesser, one),
                        beside_guesser(frame, guesser, beside)) for one in (part, other)]
                    for lot in LOTS[::2]:
                        self.assertEqual(is_kept(frame, clocks[0], lot), is_kept(frame, clocks[1], lot))

    def test_beside_its_partner_nothing_else_stands(self):
        frame = (2, 1, 0, (XOR,), 1)
        for part in parts_of(frame, 5, 51):
            draw = random.Random(f"{part}")
            other = some(draw, frame, 2)
            paper = stands_paper(frame, part, other)
            if paper[0] == "fails":
                clocks = [beside_guesser(frame, paper[1], one) for one in (other, partner(frame, part))]
                self.assertFalse(is_kept(frame, put_beside(frame, *clocks), ()))

    def test_any_lots(self):
        draw, seen = random.Random(52), []
        frame = (2, 1, 0, (AND,), 1)
        for part in parts_of(frame, 4, 52):
            for other in (part, some(draw, frame, 2)):
                slow = SlowStretches(frame, (part, other), None, False)
                least = slow.least()
                states = list(itertools.product(range(len(part[0])), range(len(other[0]))))
                every = sorted(itertools.product(data_of(frame), data_of(frame), states, states, (0, 1)))
                tried = [tuple(every)]
                for _ in range(6 if least is not None else 0):
                    tried.append(tuple(sorted(set(least) | set(draw.sample(every, 1)))))
                    tried.append(tuple(sorted(set(least) - {draw.choice(least)})))
                    tried.append(least)
                for value in tried:
                    told = stands_hold(frame, part, other, ("stands", value))
                    self.assertIs(told, slow.is_sure(value))
                    seen.append(told)
        self.assertGreater(min(seen.count(True), seen.count(False)), 5)

    def test_changed_papers(self):
        paper = stands_paper(SMALL, UP, DOWN)
        self.assertEqual(paper, ("stands", (((0,), (1,), (0, 0), (0, 0), 0),)))
        slow = SlowStretches(SMALL, (UP, DOWN), None, False)

        def expected(value):
            if not isinstance(value, tuple) or len(value) != 2 or value[0] != "stands" or not isinstance(value[1],
                    tuple):
                return False
            right = list(itertools.product(data_of(SMALL), data_of(SMALL), ((0, 0),), ((0, 0),), (0, 1)))
            if not all(one in right for one in value[1]):
                return False
            return list(value[1]) == sorted(set(value[1])) and slow.is_sure(value[1])

        try_judge(self, lambda value: stands_hold(SMALL, UP, DOWN, value), paper, expected)
        frame = (2, 2, 0, (XOR,), 1)
        ones = ((0,), (tuple((1 + event[2] if event[0] == "op" else 1, 0) for event in frame_events(frame)),))
        still = ((0,), (((1, 0),) * events_many(frame),))
        paper = stands_paper(frame, ones, still)
        self.assertEqual(paper[0], "fails")
        try_judge(self, lambda value: stands_hold(frame, ones, still, value), paper)
        self.assertIs(stands_hold(frame, ones, still, ("fails", still, (("op", 0, 0, 0, 1),), (0, 0), (1, 0))), True)
        self.assertIs(stands_hold(frame, ones, still, ("fails", still, (("fork", 0, (), ()), ("op", 0, 0, 0, 1)), (0, 0), (1, 0))), False)
        self.assertIs(stands_hold(frame, ones, ones, ("fails", still, (("op", 0, 0, 0, 1),), (0, 0), (1, 0))), False)

    def test_any_values(self):
        try_wrong(self, partner, (SMALL, UP), {1: InvalidProcessor})
        try_order(self, partner, (SMALL, UP), {0: (None, (InvalidFrame, -1)), 1: (((4,), (0,)), (InvalidProcessor, 0))})
        wrong = {
            0: (None, (InvalidFrame, -1)), 1: (((4,), (0,)), (InvalidProcessor, 0)),
            2: (((0,), ((),)), (InvalidProcessor, 1))}
        try_wrong(self, stands_paper, (SMALL, UP, DOWN), {1: InvalidProcessor, 2: InvalidProcessor})
        try_order(self, stands_paper, (SMALL, UP, DOWN), wrong)
        try_order(self, stands_hold, (SMALL, UP, DOWN, None), wrong)
        for value in ANY:
            self.assertIs(stands_hold(SMALL, UP, DOWN, value), False)
        self.assertEqual(with_part(UP, 0, (0,)), UP)


if __name__ == "__main__":
    unittest.main()
