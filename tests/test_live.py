"""[68]: a bench by hand."""

import random
import unittest

from leastpromise.bench import Bench, bench_behind
from leastpromise.code import compiled, compiled_holds
from leastpromise.errors import (
    InvalidDatum, InvalidDeed, InvalidFrame, InvalidIndex, InvalidLot, InvalidProcessor, InvalidProgram, InvalidSource,
    Refused)
from leastpromise.live import Live
from tests.samples import AND, ANY, HUGE, XOR, data_of, outcome, try_order, with_part
from tests.test_bench import some_bench, some_deed, things_of, told_by

SMALL = (2, 1, 0, (), 0)
STILL = ((0,), (((1, 0),) * 3,))
FRAMES = [(2, 1, 0, (AND,), 1), (2, 2, 0, (XOR,), 1), (2, 1, 2, (AND,), 1)]


def state_of(bench):
    return things_of(bench), bench.deeds, bench.anew, told_by(bench)


class LiveTest(unittest.TestCase):
    def test_at_each_moment_the_bench_of_just_the_deeds_done(self):
        said = {"do": 0, "undo": 0, "redo": 0, "refused": 0}
        for frame in FRAMES:
            draw = random.Random(f"68 {frame}")
            for _ in range(10):
                args = some_bench(draw, frame)
                live, deeds, undone = Live(*args), [], []
                for _ in range(12):
                    word = draw.choice(["do", "do", "undo", "redo"])
                    if word == "do":
                        deed = some_deed(draw, frame)
                        told = outcome(live.do_deed, draw.choice((deed, list(deed))))
                        if told[0] == "told":
                            deeds, undone = deeds + [deed], []
                            self.assertEqual(told[1], live.bench.anew)
                        else:
                            self.assertIn(told[0], (InvalidDeed, Refused))
                            word = "refused"
                    elif word == "undo":
                        self.assertIs(live.undo_deed(), bool(deeds))
                        if deeds:
                            undone.append(deeds.pop())
                    else:
                        self.assertIs(live.redo_deed(), bool(undone))
                        if undone:
                            deeds.append(undone.pop())
                    said[word] += 1
                    self.check(live, args, deeds)
        self.assertGreater(min(said.values()), 15, said)

    def check(self, live, args, deeds):
        self.assertIsInstance(live.bench, Bench)
        self.assertEqual(live.deeds, tuple(deeds))
        behind = bench_behind(*args, deeds)
        self.assertEqual(state_of(live.bench), state_of(behind))
        for number in range(len(deeds) + 1):
            self.assertEqual(live.verdict_then(number), bench_behind(*args, deeds[:number]).verdict())

    def test_undo_and_redo(self):
        live = Live(SMALL, STILL, (), [(0,), (1,)])
        self.assertEqual((live.deeds, things_of(live.bench)), ((), (SMALL, STILL, (), ((0,), (1,)))))
        self.assertEqual((live.undo_deed(), live.redo_deed()), (False, False))
        self.assertEqual(live.do_deed(["beats", 0, 0, 2]), (1, 0))
        self.assertEqual(live.do_deed(("put", 0, ("fence",))), (0, 2))
        self.assertEqual(live.do_deed(["data", [(1,)]]), (0, 0))
        done = live.deeds
        self.assertEqual(done, (("beats", 0, 0, 2), ("put", 0, ("fence",)), ("data", ((1,),))))
        self.assertEqual((live.undo_deed(), live.undo_deed(), live.deeds), (True, True, done[:1]))
        self.assertEqual((live.redo_deed(), live.deeds), (True, done[:2]))
        # A refused deed takes nothing from what can be done again.
        self.assertEqual(outcome(live.do_deed, ("strike", 1)), (InvalidDeed, -1))
        self.assertEqual((live.deeds, live.redo_deed(), live.redo_deed(), live.deeds), (done[:2], True, False, done))
        self.assertIs(live.undo_deed(), True)
        self.assertEqual(live.do_deed(("guess", 0, 1)), (1, 0))
        self.assertEqual((live.redo_deed(), live.deeds), (False, done[:2] + (("guess", 0, 1),)))
        self.assertEqual([live.undo_deed() for _ in range(4)], [True, True, True, False])
        self.assertEqual(state_of(live.bench), state_of(Bench(SMALL, STILL, (), [(0,), (1,)])))
        self.assertEqual([live.redo_deed() for _ in range(4)], [True, True, True, False])

    def test_deeds_refused_in_the_middle(self):
        frame = (2, 1, 0, (AND,), 0)
        live = Live(frame, ((0,), (((1, 0),) * 7,)), (("op", 0, 0, 0, 0),), data_of(frame))
        live.do_deed(("state",))
        before = state_of(live.bench), live.deeds
        self.assertEqual(outcome(live.do_deed, ("fence", (0,))), (Refused, "right"))
        self.assertEqual(outcome(live.do_deed, ("next", 0, 0, 2)), (InvalidDeed, -1))
        for value in ANY:
            self.assertEqual(outcome(live.do_deed, value), (InvalidDeed, -1), value)
        self.assertEqual((state_of(live.bench), live.deeds), before)

    def test_sixty_states(self):
        live = Live(SMALL, ((0,) * 60, (((1, 0),) * 3,) * 60), (), [])
        self.assertEqual(outcome(live.do_deed, ("state",)), (Refused, "states"))
        self.assertEqual((live.deeds, live.verdict_then(0)), ((), ("quiet", tuple(range(10)))))

    def test_verdicts_then(self):
        live = Live(SMALL, STILL, (), [(0,)])
        live.do_deed(("state",))
        for number in ANY + [2, 3]:
            told = outcome(live.verdict_then, number)
            if type(number) is int and number in (0, 1):
                self.assertEqual(told[0], "told")
            else:
                self.assertEqual(told, (InvalidIndex, -1), number)
        live.undo_deed()
        self.assertEqual(outcome(live.verdict_then, 1), (InvalidIndex, -1))

    def test_if_a_deed_had_been_another_one(self):
        counts = set()
        for frame in FRAMES:
            draw = random.Random(f"69 {frame}")
            for _ in range(10):
                args = some_bench(draw, frame)
                live = Live(*args)
                for _ in range(9):
                    outcome(live.do_deed, some_deed(draw, frame))
                before = state_of(live.bench), live.deeds
                for number in range(len(live.deeds)):
                    for deed in (some_deed(draw, frame), draw.choice(ANY), live.deeds[number]):
                        rest = list(live.deeds[:number]) + [deed] + list(live.deeds[number + 1:])
                        done = 0
                        while done < len(rest) and outcome(bench_behind, *args, rest[:done + 1])[0] == "told":
                            done += 1
                        expected = done, bench_behind(*args, rest[:done]).verdict()
                        self.assertEqual(live.verdict_if(number, deed), expected, (number, deed))
                        counts.add((done, number, len(rest)))
                self.assertEqual((state_of(live.bench), live.deeds), before)
        self.assertGreater(len(counts), 20)
        self.assertTrue(any(number < done < many for done, number, many in counts))

    def test_numbers_of_deeds(self):
        live = Live(SMALL, STILL, (), [(0,)])
        self.assertEqual(outcome(live.verdict_if, 0, ("state",)), (InvalidIndex, -1))
        live.do_deed(("state",))
        live.do_deed(("next", 0, 0, 1))
        self.assertEqual(live.verdict_if(0, ("guess", 0, 1))[0], 1)
        self.assertEqual(live.verdict_if(0, None)[0], 0)
        self.assertEqual(live.verdict_if(1, ["state"])[0], 2)
        for number in (2, 3, -1, True, None, "0", HUGE, (0,)):
            self.assertEqual(outcome(live.verdict_if, number, ("state",)), (InvalidIndex, -1), number)
            self.assertEqual(outcome(live.verdict_if, number, None), (InvalidIndex, -1), number)
        live.undo_deed()
        self.assertEqual(outcome(live.verdict_if, 1, ("state",)), (InvalidIndex, -1))
        # What was taken back is no deed that comes behind.
        self.assertEqual(live.verdict_if(0, ("state",))[0], 1)
        self.assertIs(live.redo_deed(), True)

    def test_compiled_now(self):
        words = set()
        for frame in FRAMES:
            draw = random.Random(f"70 {frame}")
            for _ in range(8):
                args = some_bench(draw, frame)
                live = Live(*args[:3], [datum for datum in args[3] if datum[0] == 0][:3])
                outcome(live.do_deed, some_deed(draw, frame))
                lot = tuple(atom for atom in range(10) if draw.random() < 0.4)
                bench, places = live.bench, tuple(range(frame[1] + frame[2]))
                if not bench.data or len(bench.data) > 3:
                    continue
                classes = (tuple(sorted(bench.data)),)
                told = live.compiled_now(draw.choice((lot, list(lot))))
                self.assertEqual(told, compiled(frame, lot, classes, places, bench.program))
                self.assertIs(compiled_holds(frame, lot, classes, places, bench.program, told), True)
                words.add(told[0])
        self.assertGreater(len(words), 1)
        live = Live(SMALL, STILL, (), [])
        self.assertEqual(outcome(live.compiled_now, ()), (InvalidSource, 0))
        for value in ANY:
            self.assertIn(outcome(live.compiled_now, value)[0], (InvalidLot, InvalidSource), value)
        self.assertEqual(outcome(live.compiled_now, [3, 3]), (InvalidLot, 1))
        self.assertEqual(Live(SMALL, STILL, (("fence",),), [(1,), (0,)]).compiled_now(()),
            ("fenced", (("fence",),), ()))

    def test_any_values(self):
        good = (SMALL, STILL, (), ((0,),))
        try_order(self, Live, good, {
            0: (None, (InvalidFrame, -1)), 1: (((4,), (0,)), (InvalidProcessor, 0)), 2: ((0,), (InvalidProgram, 0)),
            3: ([(0,), (0,)], (InvalidDatum, 1))})
        for place, error in ((0, InvalidFrame), (1, InvalidProcessor), (2, InvalidProgram), (3, InvalidDatum)):
            for value in ANY:
                self.assertIn(outcome(Live, *with_part(good, place, value))[0], ("told", error), (place, value))
        self.assertEqual(Live(data=[(0,)], program=(), processor=STILL, frame=SMALL).verdict_then(number=0)[0], "quiet")


if __name__ == "__main__":
    unittest.main()
