"""[67]: looks."""

import random
import unittest

from leastpromise.bargain import loudest
from leastpromise.bench import Bench
from leastpromise.code import compiled_holds
from leastpromise.compiler import open_classes
from leastpromise.court import court_holds
from leastpromise.errors import (
    InvalidDatum, InvalidFrame, InvalidIndex, InvalidLot, InvalidProcessor, InvalidProgram, InvalidRows, InvalidSource,
    PromiseError,
    Refused)
from leastpromise.events import frame_events
from leastpromise.looks import look_holds, make_look, wrong_looks
from leastpromise.several import late_processor, sum_deals
from tests.samples import (
    AND, ANY, XOR, data_of, is_tupled, kind_processor, mangled, nested, outcome, some_programs, with_part, wrong_kinds)

FRAME = (2, 2, 0, (XOR,), 1)
SMALL = (2, 1, 0, (), 0)
STILL = ((0,), (((1, 0),) * 3,))
OP, FENCE = ("op", 0, 0, 1, 1), ("fence",)
COUNTS = {
    "court": 3, "wide": 3, "both": 2, "order": 3, "ever": 3, "silent": 5, "compiled": 5, "asks": 4, "shares": 4,
    "rule": 4}


def questions(frame, seed=0):
    """(word, question), each word some times."""
    draw = random.Random(f"{seed} {frame}")
    events = frame_events(frame)
    places = tuple(range(frame[1] + frame[2]))
    for program in some_programs(frame, 4, most=2, depth=1, seed=seed):
        one, other = [kind_processor(draw, events, 2, 0.3) for _ in range(2)]
        lot = tuple(atom for atom in range(10) if draw.random() < 0.5)
        secrets = tuple(tuple(draw.choice(data_of(frame)) for _ in range(2)) for _ in range(3))
        yield "court", (frame, one, lot)
        yield "wide", (frame, one, lot)
        yield "both", (frame, one)
        yield "order", (frame, one, draw.choice((other, one, loudest(frame, lot))))
        yield "ever", (frame, draw.choice((one, loudest(frame, lot))), lot)
        yield "silent", (frame, lot, open_classes(frame, places[:1]), places, program)
        yield "compiled", (frame, lot, open_classes(frame, places[1:]), places[1:], program)
        yield "asks", (frame, program, lot, secrets)
        yield "shares", (frame, program, lot, draw.choice((secrets, sum_deals(frame, 1), sum_deals(frame, frame[1]))))
        yield "rule", (frame, (FENCE, FENCE), draw.choice(((FENCE,), (), (FENCE,) * 3)), lot)
    if frame[3]:
        yield "rule", (frame, (("op", 0, 0, 0, 0), ("op", 0, 0, 0, 0)), (("op", 0, 0, 0, 0),) * 2, (0, 6))


def in_lists(value):
    return [in_lists(part) for part in value] if isinstance(value, tuple) else value


class LookTest(unittest.TestCase):
    FRAMES = [FRAME, (2, 1, 0, (AND,), 2), (2, 1, 2, (AND,), 1), (2, 2, 0, (AND, XOR), 0)]

    def test_made_looks_hold(self):
        seen = set()
        for frame in self.FRAMES:
            for word, question in questions(frame):
                look = make_look(word, question)
                self.assertEqual(look[:2], (word, question))
                self.assertEqual(len(look), 3)
                self.assertTrue(is_tupled(look))
                self.assertIs(look_holds(look), True, look)
                # Lists are turned to tuples ahead of all, also where none may stand otherwise.
                self.assertEqual(make_look(word, in_lists(question)), look)
                self.assertEqual(make_look(word=word, question=list(question)), look)
                self.assertIs(look_holds((word, list(question), look[2])), False)
                self.assertIs(look_holds((word, in_lists(question), look[2])), False)
                seen.add((word, str(look[2][0]) if word not in ("both", "asks") else ""))
        self.assertEqual({word for word, _ in seen}, set(COUNTS))
        self.assertGreater(len(seen), 16)

    def test_what_does_not_hold(self):
        for word, question in questions((2, 1, 0, (AND,), 1), seed=1):
            look = make_look(word, question)
            for value in wrong_kinds(look[2]):
                self.assertIs(look_holds((word, question, value)), False)
            for other in COUNTS:
                if other != word:
                    self.assertIn(look_holds((other, question, look[2])), (True, False))
            for value in list(mangled(look[1]))[:60]:
                self.assertIn(look_holds((word, value, look[2])), (True, False))
            self.assertIs(look_holds((word, question)), False)
            self.assertIs(look_holds(look + (0,)), False)
            self.assertIs(look_holds(list(look)), False)
            self.assertIs(look_holds((word, question[:-1], look[2])), False)
            self.assertIs(look_holds((word, question + ((),), look[2])), False)
            self.assertIs(look_holds((word.upper(), question, look[2])), False)

    def test_any_such_values_hold(self):
        # A look holds by what its word's judge lets, not just by what is told.
        processor = ((0, 0), (((1, 0),) * 3,) * 2)
        look = make_look("court", (SMALL, processor, ()))
        more = look[2][1] + ((((0,), 1), ((1,), 1)),)
        self.assertIs(court_holds(SMALL, processor, (), ("kept", more)), True)
        self.assertIs(look_holds(("court", look[1], ("kept", more))), True)
        self.assertIs(look_holds(("court", look[1], ("kept", more[1:]))), False)
        frame, late, lot = late_processor()
        told = make_look("ever", (frame, late, lot))
        fence = (((FENCE,), (0,), (1,)),)
        self.assertIs(look_holds(("ever", told[1], ("told", fence + told[2][1]))), True)
        self.assertIs(look_holds(("ever", told[1], ("told", told[2][1] + fence))), False)
        silent = make_look("silent", (FRAME, (0,), open_classes(FRAME, (0,)), (0, 1), (FENCE,)))
        self.assertEqual(silent[2], ("way", ()))
        self.assertIs(look_holds(silent[:2] + (("way", (("op", 0, 1, 0, 1),) * 2),)), True)

    def test_wrong_questions_raise_nothing_but_hold_not(self):
        frame = (2, 2, 0, (XOR,), 1)
        still = ((0,), (((1, 0),) * 11,))
        look = make_look("court", (frame, still, ()))
        for at in range(3):
            for value in ANY:
                self.assertIn(look_holds(("court", with_part(look[1], at, value), look[2])), (True, False))
        for value in ANY + [None, "court", ("court",), ("court", ()), ("court", (), ()), ("both", (frame, still)),
                ((), (), ()), (None,) * 3, nested(12)]:
            self.assertIs(look_holds(value), False, value)
        bench = Bench(SMALL, STILL, (), [])
        for value in (bench, ("court", bench, ()), ("court", (bench,) * 3, ()), (bench,) * 3, look[:2] + (bench,),
                ("both", (SMALL, STILL), (bench, bench))):
            self.assertIs(look_holds(value), False)
        self.assertIs(look_holds(("court", (frame, still, (3, 3)), look[2])), False)
        # The court would take the lot as a list, but a look has none.
        self.assertIs(court_holds(frame, still, [0], look[2]), True)
        self.assertIs(look_holds(("court", (frame, still, (0,)), look[2])), True)
        self.assertIs(look_holds(("court", (frame, still, [0]), look[2])), False)
        asks = make_look("asks", (frame, (), (), (((0, 0),),)))
        self.assertIs(look_holds(("asks", (frame, (), (), ([(0, 0)],)), asks[2])), False)
        self.assertIs(compiled_holds(frame, (), (((0, 0),),), (0,), (), look[2]), False)

    def test_words_and_questions(self):
        for word in ANY + ["", "Court", "court ", "live", ("court",), b"court"]:
            for question in ((), None, (SMALL, STILL, ())):
                self.assertEqual(outcome(make_look, word, question), (Refused, "word"), word)
        for word, many in COUNTS.items():
            for question in ANY + [(None,) * (many - 1), [None] * (many + 1)]:
                if not isinstance(question, (list, tuple)) or len(question) != many:
                    self.assertEqual(outcome(make_look, word, question), (Refused, "question"), (word, question))
            self.assertEqual(outcome(make_look, word, (None,) * many), (InvalidFrame, -1))

    def test_errors_of_what_is_asked(self):
        for word, question, expected in (
                ("court", ([2, 1, 0, [], 0], [[4], [0]], []), (InvalidProcessor, 0)),
                ("court", (SMALL, STILL, [3, 3]), (InvalidLot, 1)),
                ("wide", (SMALL, STILL, None), (InvalidLot, -1)), ("both", (SMALL, None), (InvalidProcessor, -1)),
                ("order", (SMALL, STILL, None), (InvalidProcessor, -1)),
                ("ever", (SMALL, 0, ()), (InvalidProcessor, -1)),
                ("silent", (SMALL, (), [], (), ()), (InvalidSource, -1)),
                ("silent", (SMALL, (), [[[0]]], (1,), ()), (InvalidIndex, 0)),
                ("compiled", (SMALL, (), [[[0], [0]]], (), ()), (InvalidSource, 0)),
                ("compiled", (SMALL, (), [[[0]]], (), [0]), (InvalidProgram, 0)),
                ("asks", (SMALL, (), (), []), (InvalidDatum, -1)), ("shares", (SMALL, (), (), [[]]), (InvalidDatum, 0)),
                ("rule", (SMALL, [], [0], ()), (InvalidRows, 0)),
                ("rule", (FRAME, [], [OP], ()), (Refused, "meaning"))):
            self.assertEqual(outcome(make_look, word, question), expected, (word, question))

    def test_wrong_looks(self):
        looks = [make_look(word, question) for word, question in list(questions(FRAME, seed=2))[:10]]
        self.assertEqual(wrong_looks(looks), ())
        self.assertEqual(wrong_looks([]), ())
        self.assertEqual(wrong_looks(tuple(looks)), ())
        broken = [with_part(look, 2, None) for look in looks]
        mixed = [look for both in zip(looks, broken) for look in both] + [None, list(looks[0]), looks[3], 7]
        self.assertEqual(wrong_looks(mixed), tuple(range(1, 20, 2)) + (20, 21, 23))
        self.assertEqual(wrong_looks(looks[0]), (0, 1, 2))
        for value in ANY:
            told = outcome(wrong_looks, value)
            if isinstance(value, (list, tuple)):
                self.assertEqual(told, ("told", tuple(range(len(value)))), value)
            else:
                self.assertEqual(told, (Refused, "looks"), value)
        self.assertEqual(outcome(wrong_looks, PromiseError("x")), (Refused, "looks"))


if __name__ == "__main__":
    unittest.main()
