"""[65], [66]: the bench, its deeds, and what it tells."""

import itertools
import random
import unittest

from leastpromise.bargain import parting_processor
from leastpromise.bench import Bench, bench_behind
from leastpromise.court import is_kept
from leastpromise.errors import (
    InvalidDatum, InvalidDeed, InvalidFrame, InvalidProcessor, InvalidProgram, PromiseError, Refused)
from leastpromise.events import events_many, frame_events, need_processor, view_of
from leastpromise.fences import fence_choices, put_fences
from leastpromise.leaks import least_leaks, least_promises
from leastpromise.programs import need_program, unrolled
from leastpromise.runs import datum_behind, run_steps, trace_of
from leastpromise.traces import promise_on
from tests.samples import (
    AND, ANY, HUGE, XOR, data_of, is_tupled, kind_processor, nested, outcome, some_programs, some_row, try_order,
    try_wrong,
    with_part)

SMALL = (2, 1, 0, (), 0)
STILL = ((0,), (((1, 0),) * 3,))
FRAMES = [(2, 1, 0, (AND,), 1), (2, 2, 0, (XOR,), 1), (2, 2, 0, (AND, XOR), 2), (2, 1, 2, (AND,), 1), (2, 1, 2, (), 0),
    (2, 1, 0, (), 0)]


def some_bench(draw, frame):
    """(frame, processor, program, data)."""
    events = frame_events(frame)
    processor = kind_processor(draw, events, draw.randrange(1, 3), 0.3)
    program = draw.choice(some_programs(frame, 12, most=4, depth=2, seed=draw.randrange(99)))
    data = draw.sample(data_of(frame), draw.randrange(min(len(data_of(frame)), 8) + 1))
    kind = draw.randrange(4)
    if kind == 0:
        # Nothing is shown at the first event, all at later ones.
        processor = ((0, 3), (((1, 1),) * len(events), tuple((1 + event[-1] if len(event) > 2 else 1, 1) for event in events)))
        program = program[:1]
    elif kind == 1:
        # Wrong events alone are told apart, and data go one side.
        told = kind_processor(draw, events, 1, 0.8)[1][0]
        processor = ((3,), (tuple(read if event[0].startswith("wrong") else (1, 0) for event, read in zip(events, told)),))
        wrong = tuple(row for row in [some_row(draw, frame, 0) for _ in range(4)] if row[0] in ("op", "load"))
        program = (("fork", 0, (), wrong), ("fence",), ("loop", 2, (("fork", 0, (), wrong),)))
        data = [datum for datum in data_of(frame) if datum[0] == 0][:8]
    return frame, processor, program, data


def some_deed(draw, frame):
    """A deed that is often right."""
    word = draw.choice(["beats", "beats", "next", "guess", "state", "put", "put", "strike", "fence", "fence", "data"])
    state, number = draw.randrange(3), draw.randrange(events_many(frame))
    return {
        "beats": ("beats", state, number, draw.randrange(1, 4)), "next": ("next", state, number, draw.randrange(3)),
        "guess": ("guess", state, draw.randrange(4)), "state": ("state",), "strike": ("strike", draw.randrange(5)),
        "put": ("put", draw.randrange(5), some_row(draw, frame, 2)),
        "fence": ("fence", tuple(atom for atom in range(10) if draw.random() < 0.4)),
        "data": ("data", tuple(draw.sample(data_of(frame), draw.randrange(min(len(data_of(frame)), 8) + 1)))),
    }[word]


def slow_told(frame, processor, program, data):
    """What a bench over these things tells, by what else tells it."""
    views = tuple(view_of(frame, processor, program, datum) for datum in data)
    greatest = promise_on(frame, program, data)
    verdict = ("lucky",)
    if greatest is not None and is_kept(frame, processor, greatest):
        verdict = ("quiet", greatest)
    elif len(set(views)) > 1:
        verdict = next(
            ("loud", data[one], data[other]) for one, other in itertools.combinations(range(len(data)),
            2) if views[one] != views[other])
    return least_leaks(frame, processor), least_promises(frame, processor), views, greatest, verdict


def told_by(bench):
    return bench.leaks(), bench.promises(), bench.views(), bench.greatest(), bench.verdict()


def things_of(bench):
    return bench.frame, bench.processor, bench.program, bench.data


def slow_deed(frame, processor, program, data, deed):
    """(processor, program, data) behind a right deed, taken word by word; None if it isn't right."""
    guesses, steps = [list(part) for part in processor]
    try:
        word, rest = deed[0], deed[1:]
        if word in ("beats", "next"):
            state, number, value = rest
            row = list(steps[state])
            row[number] = (value, row[number][1]) if word == "beats" else (row[number][0], value)
            steps[state] = tuple(row)
        elif word == "guess":
            guesses[rest[0]] = guesses[rest[0]] and rest[1] or rest[1]
        elif word == "state":
            if len(guesses) == 60:
                return None
            steps.append(((1, len(guesses)),) * events_many(frame))
            guesses.append(0)
        elif word == "put":
            if rest[0] > len(program):
                return None
            program = program[:rest[0]] + (rest[1],) + program[rest[0]:]
        elif word == "strike":
            program = program[:rest[0]] + (program[rest[0]],)[1:] + program[rest[0] + 1:]
        elif word == "fence":
            program = put_fences(frame, program, fence_choices(frame, program, rest[0], data))
        else:
            data = tuple(rest[0])
        changed = (tuple(guesses), tuple(steps))
        need_processor(frame, changed)
        return changed, program, data
    except (PromiseError, IndexError):
        return None


class BenchTest(unittest.TestCase):
    def test_the_printed_example(self):
        frame, program = (2, 2, 0, ((0, 1, 1, 0),), 1), (("fork", 0, (), (("op", 0, 0, 1, 0),)),)
        bench = Bench(frame, ((3,), (((1, 0),) * 9 + ((2, 0),) * 2,)), program, [(0, 0), (0, 1)])
        self.assertEqual(
            (bench.leaks(), bench.promises(), bench.verdict()), (((6,),), ((6,),), ("loud", (0, 0), (0, 1))))
        self.assertIsNone(bench.do_deed(("fence", (6,))))
        fenced = (("fork", 0, (), (("fence",), ("op", 0, 0, 1, 0))),)
        self.assertEqual((bench.program, bench.verdict()[0]), (fenced, "quiet"))

    def test_what_is_told_at_first(self):
        words = set()
        for frame in FRAMES:
            draw = random.Random(f"65 {frame}")
            for _ in range(12):
                frame, processor, program, data = args = some_bench(draw, frame)
                bench = Bench(*args)
                self.assertEqual(things_of(bench), (frame, processor, program, tuple(data)))
                self.assertEqual((bench.deeds, bench.anew), ((), (1, len(data))))
                told = told_by(bench)
                self.assertTrue(is_tupled(told) and is_tupled(things_of(bench)))
                self.assertEqual(told, slow_told(frame, processor, program, data))
                self.assertEqual(told_by(bench), told)
                words.add(told[4][0])
        self.assertEqual(words, {"quiet", "loud", "lucky"})

    def test_behind_any_deeds(self):
        done = {}
        for frame in FRAMES:
            draw = random.Random(f"66 {frame}")
            for _ in range(6):
                bench = Bench(*some_bench(draw, frame))
                deeds = []
                for _ in range(9):
                    deed = some_deed(draw, frame)
                    expected = slow_deed(*things_of(bench), deed)
                    before = things_of(bench), bench.deeds, bench.anew
                    told = outcome(bench.do_deed, draw.choice((deed, list(deed))))
                    if expected is None:
                        self.assertIn(told[0], (InvalidDeed, Refused), (deed, told))
                        self.assertEqual((things_of(bench), bench.deeds, bench.anew), before)
                        continue
                    self.assertEqual(told, ("told", None), deed)
                    deeds.append(deed)
                    self.assertEqual(things_of(bench), (frame,) + expected)
                    self.assertEqual(bench.deeds, tuple(deeds))
                    self.assertEqual(bench.anew, self.anew(before[0], deed, expected))
                    done[deed[0]] = done.get(deed[0], 0) + 1
                    if draw.random() < 0.5:
                        self.assertEqual(told_by(bench), told_by(Bench(*things_of(bench))))
                self.assertEqual(told_by(bench), told_by(Bench(*things_of(bench))))
                self.assertEqual(told_by(bench), slow_told(*things_of(bench)))
        self.assertEqual(len(done), 8, done)
        self.assertGreater(min(done.values()), 8)

    def anew(self, before, deed, behind):
        if deed[0] in ("beats", "next", "guess", "state"):
            return 1, 0
        if deed[0] == "data":
            return 0, len(set(deed[1]) - set(before[3]))
        return 0, len(behind[2])

    def test_each_deed(self):
        frame = (2, 1, 0, (AND,), 0)
        row = ((1, 0),) * 7
        op, fence = ("op", 0, 0, 0, 0), ("fence",)
        bench = Bench(frame, ((0,), (row,)), (op,), [(1,), (0,)])
        for deed, processor, program, data, anew in (
                (("beats", 0, 3, 2), ((0,), (with_part(row, 3, (2, 0)),)), (op,), ((1,), (0,)), (1, 0)),
                (["beats", 0, 3, 1], ((0,), (row,)), (op,), ((1,), (0,)), (1, 0)),
                (["beats", 0, 3, 1], ((0,), (row,)), (op,), ((1,), (0,)), (1, 0)),
                (("state",), ((0, 0), (row, ((1, 1),) * 7)), (op,), ((1,), (0,)), (1, 0)),
                (("next", 0, 6, 1), ((0, 0), (row[:6] + ((1, 1),), ((1, 1),) * 7)), (op,), ((1,), (0,)), (1, 0)),
                (("guess", 1, 3), ((0, 3), (row[:6] + ((1, 1),), ((1, 1),) * 7)), (op,), ((1,), (0,)), (1, 0)),
                (("put", 0, fence), None, (fence, op), ((1,), (0,)), (0, 2)),
                (("put", 2, fence), None, (fence, op, fence), ((1,), (0,)), (0, 2)),
                (("strike", 1), None, (fence, fence), ((1,), (0,)), (0, 2)),
                (["data", [(0,), (1,)]], None, (fence, fence), ((0,), (1,)), (0, 0)),
                (("data", ()), None, (fence, fence), (), (0, 0)),
                (("put", 1, ("loop", 2, (op,))), None, (fence, ("loop", 2, (op,)), fence), (), (0, 0)),
                (["fence", []], None, (fence, op, op, fence), (), (0, 0)),
                (("data", ((1,),)), None, (fence, op, op, fence), ((1,),), (0, 1)),
                (("data", [(0,), (1,)]), None, (fence, op, op, fence), ((0,), (1,)), (0, 1)),
                (("fence", [1]), InvalidDeed, None, None, None)):
            if processor is InvalidDeed:
                self.assertEqual(outcome(bench.do_deed, deed), (Refused, "right"))
                continue
            processor = processor or bench.processor
            self.assertIsNone(bench.do_deed(deed))
            self.assertEqual((things_of(bench)[1:], bench.anew), ((processor, program, data), anew), deed)
            self.assertTrue(is_tupled(bench.deeds))
        self.assertEqual(len(bench.deeds), 15)
        self.assertEqual(bench.deeds[-1], ("data", ((0,), (1,))))

    def test_deeds_that_are_none(self):
        frame = (2, 1, 2, (AND,), 1)
        many = events_many(frame)
        program = (("fence",), ("loop", 1, ()))
        bench = Bench(frame, ((0, 0), (((1, 0),) * many,) * 2), program, [(0, 0, 0)])
        before = things_of(bench)
        for deed in ANY + [
                ("beats", 2, 0, 1), ("beats", -1, 0, 1), ("beats", 0, many, 1), ("beats", 0, 0, 0), ("beats", 0, 0, -1),
                ("beats", 0, 0, True), ("beats", True, 0, 1),
                ("beats", 0, False, 1), ("beats", 0, 0), ("beats", 0, 0, 1, 1), ("beats", 0, 0, "1"), ("beats",),
                ("next", 0, 0, 2), ("next", 0, many, 0), ("next", 0, 0, None),
                ("next", 2, 0, 0), ("next", 0, 0, -1), ("next", 0, 0, HUGE), ("guess", 0, 4), ("guess", 2, 0),
                ("guess", 0, True), ("guess", 0), ("state", 0), ("states",), ("state", ()),
                ("put", 3, ("fence",)), ("put", -1, ("fence",)), ("put", 0, ["fence"]), ("put", 0, ("fence", 0)),
                ("put", 0, ("op", 0, 1, 0, 0)), ("put", 0), ("put", 0, ("loop", 5, ())),
                ("put", 0, ("loop", 1, [])), ("put", False, ("fence",)), ("put", 0, ("fork", 0, (), (0,))),
                ("put", 0, ()), ("put", 0, None), ("strike", 2), ("strike", -1),
                ("strike", True), ("strike",), ("strike", None), ("strike", 0, 0), ("fence", None), ("fence", (3, 3)),
                ("fence", (10,)), ("fence", 6), ("fence",), ("fence", (), ()), ("fence", "6"),
                ("fence", (True,)), ("data", None), ("data", ((0, 0, 0), (0, 0, 0))), ("data", ((0, 0),)),
                ("data", ([0, 0, 0],)), ("data", (0, 0, 0)), ("data",), ("data", "", ""),
                ("data", ((0, 0, 2),)), ("data", ((0, 0, False),)), (("beats",), 0, 0, 1), (None, 0), ["undo"], "state",
                "beats", ("BEATS", 0, 0, 1), {"state": 1}, bench, nested(12),
                ("put", 0, nested(11)), ("fence", nested(11)), ("data", nested(11)), ("beats", 0, 0, nested(11)),
                ("beats", HUGE, HUGE, HUGE), (bench,), ("put", 0, bench)]:
            self.assertEqual(outcome(bench.do_deed, deed), (InvalidDeed, -1), deed)
            self.assertEqual(outcome(bench_behind, *before, [deed]), (InvalidDeed, 0), deed)
        self.assertEqual((things_of(bench), bench.deeds, bench.anew), (before, (), (1, 1)))

    def test_sixty_states(self):
        bench = Bench(SMALL, ((0,) * 59, (((1, 0),) * 3,) * 59), (), [])
        bench.do_deed(["state"])
        self.assertEqual(bench.processor[1][59], ((1, 59),) * 3)
        self.assertEqual(outcome(bench.do_deed, ("state",)), (Refused, "states"))
        self.assertEqual(outcome(bench.do_deed, ("state", 1)), (InvalidDeed, -1))
        self.assertEqual((len(bench.processor[0]), len(bench.deeds)), (60, 1))
        bench.do_deed(("next", 0, 0, 59))
        self.assertEqual(outcome(bench_behind, SMALL, bench.processor, (), [], [("guess", 0, 1), ("state",)]),
            (InvalidDeed, 1))

    def test_great_beats(self):
        bench = Bench(SMALL, STILL, (("fence",), ("fence",)), [(0,)])
        bench.do_deed(("beats", 0, 0, HUGE))
        self.assertEqual(bench.views(), ((HUGE, HUGE),))

    def test_a_verdict_holds(self):
        seen = {"quiet": 0, "loud": 0, "lucky": 0}
        for frame in FRAMES[:4]:
            draw = random.Random(f"67 {frame}")
            for _ in range(15):
                frame, processor, program, data = args = some_bench(draw, frame)
                verdict = Bench(*args).verdict()
                seen[verdict[0]] += 1
                if verdict[0] == "quiet":
                    self.assertEqual(len({trace_of(frame, program, datum, verdict[1]) for datum in data}),
                        min(len(data), 1))
                elif verdict[0] == "lucky":
                    # For each lot that is kept some processor that keeps it parts two of the data.
                    self.assertEqual(len({view_of(frame, processor, program, datum) for datum in data}), 1)
                    for lot in least_promises(frame, processor):
                        one, other = next(
                            pair for pair in itertools.combinations(data, 2)
                            if trace_of(frame, program, pair[0], lot) != trace_of(frame, program, pair[1], lot))
                        if len(run_steps(frame, program, one)) < 50:
                            other_one = parting_processor(frame, program, one, other, lot)
                            self.assertTrue(is_kept(frame, other_one, lot))
                            self.assertNotEqual(*[view_of(frame, other_one, program, datum) for datum in (one, other)])
                else:
                    self.assertNotEqual(*[view_of(frame, processor, program, datum) for datum in verdict[1:]])
        self.assertGreater(min(seen.values()), 2, seen)

    def test_behind_a_fence_it_is_quiet(self):
        fenced = 0
        for frame in FRAMES[:4]:
            draw = random.Random(f"68 {frame}")
            for _ in range(25):
                bench = Bench(*some_bench(draw, frame))
                program, data = bench.program, bench.data
                for lot in bench.promises():
                    if outcome(bench.do_deed, ("fence", lot))[0] == "told":
                        self.assertEqual(bench.verdict()[0], "quiet")
                        need_program(frame, bench.program)
                        for datum in data:
                            self.assertEqual(datum_behind(frame, bench.program, datum),
                                datum_behind(frame, program, datum))
                        fenced += bench.program != unrolled(frame, program)
        self.assertGreater(fenced, 3)

    def test_the_first_two_in_order(self):
        frame = (2, 2, 0, (AND,), 0)
        loud = ((0,), (tuple((1 + event[2] if event[0] == "op" else 1, 0) for event in frame_events(frame)),))
        program = (("op", 0, 0, 0, 0),)
        for data in itertools.permutations(data_of(frame)):
            views = [datum[0] for datum in data]
            expected = next((data[one], data[other]) for one, other in itertools.combinations(range(4),
                2) if views[one] != views[other])
            self.assertEqual(Bench(frame, loud, program, list(data)).verdict(), ("loud",) + expected)

    def test_what_is_handed_in_has_no_effect_later(self):
        data, deed = [(0,), (1,)], ["data", [(0,)]]
        bench = Bench(SMALL, STILL, (), data)
        data.append((2,))
        bench.do_deed(deed)
        deed[1].append((1,))
        deeds = [deed, ["fence", [3]]]
        behind = bench_behind(SMALL, STILL, (), [(0,)], deeds)
        deeds[1][1].append(4)
        self.assertEqual((bench.data, bench.deeds), (((0,),), (("data", ((0,),)),)))
        self.assertEqual(behind.deeds, (("data", ((0,), (1,))), ("fence", (3,))))

    def test_benches_do_not_share(self):
        one = Bench(SMALL, STILL, (), [(0,)])
        other = Bench(SMALL, STILL, (), [(0,)])
        one.do_deed(("beats", 0, 1, 2))
        self.assertEqual((other.processor, other.deeds, other.promises()), (STILL, (), ((),)))
        self.assertNotEqual(one, other)
        self.assertFalse(one == one.frame)

    def test_any_values(self):
        good = (SMALL, STILL, (), ((0,),))
        wrong = {
            0: (None, (InvalidFrame, -1)), 1: (((4,), (0,)), (InvalidProcessor, 0)), 2: ((0,), (InvalidProgram, 0)),
            3: ([(0,), (0,)], (InvalidDatum, 1))}
        try_order(self, Bench, good, wrong)
        for place, error in ((0, InvalidFrame), (1, InvalidProcessor), (2, InvalidProgram), (3, InvalidDatum)):
            for value in ANY:
                told = outcome(Bench, *with_part(good, place, value))
                self.assertIn(told[0], ("told", error), (place, value))
        self.assertEqual(told_by(Bench(data=[(0,)], program=(), processor=STILL, frame=SMALL)), told_by(Bench(*good)))


class BehindTest(unittest.TestCase):
    def test_deeds_one_behind_the_other(self):
        for frame in FRAMES[:4]:
            draw = random.Random(f"69 {frame}")
            for _ in range(12):
                args = some_bench(draw, frame)
                deeds = [some_deed(draw, frame) for _ in range(draw.randrange(7))]
                bench, at = Bench(*args), None
                for number, deed in enumerate(deeds):
                    if outcome(bench.do_deed, deed)[0] != "told":
                        at = number
                        break
                told = outcome(bench_behind, *args, deeds)
                if at is not None:
                    self.assertEqual(told, (InvalidDeed, at))
                    continue
                self.assertIsInstance(told[1], Bench)
                self.assertEqual((things_of(told[1]), told[1].deeds, told[1].anew),
                    (things_of(bench), bench.deeds, bench.anew))
                self.assertEqual(told_by(told[1]), told_by(bench))

    def test_any_values(self):
        good = (SMALL, STILL, (), ((0,),), ())
        try_wrong(self, lambda *args: bench_behind(*args) and (), good, {
            1: InvalidProcessor, 2: InvalidProgram, 3: InvalidDatum, 4: InvalidDeed})
        try_order(self, bench_behind, good, {
            0: (None, (InvalidFrame, -1)), 1: (((4,), (0,)), (InvalidProcessor, 0)), 2: ((0,), (InvalidProgram, 0)),
            3: ([(0,), (0,)], (InvalidDatum, 1)), 4: (None, (InvalidDeed, -1))})
        for deeds, at in (
                (None, -1), ("state", -1), (0, -1), ([("state",), 0], 1), (("state",), 0),
                ([["state"], ["state"], ["strike", 0]], 2),
                ([("put", 0, ("fence",)), ("strike", 0), ("strike", 0)], 2)):
            self.assertEqual(outcome(bench_behind, *good[:4], deeds), (InvalidDeed, at), deeds)
        frame = (2, 1, 0, (AND,), 0)
        still = ((0,), (((1, 0),) * 7,))
        refused = [("put", 0, ("op", 0, 0, 0, 0)), ("fence", (0,))]
        self.assertEqual(outcome(bench_behind, frame, still, (), data_of(frame), refused), (InvalidDeed, 1))


if __name__ == "__main__":
    unittest.main()
