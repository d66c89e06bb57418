"""[63], [64]: fences at loud sides, the compiler whole."""

import itertools
import random
import unittest

from leastpromise.bargain import parting_processor
from leastpromise.code import compiled, compiled_holds, fenced_program, loud_sides
from leastpromise.compiler import open_classes, silent_holds, silent_paper
from leastpromise.court import is_kept
from leastpromise.errors import (
    InvalidDatum, InvalidFrame, InvalidIndex, InvalidLot, InvalidProgram, InvalidRows, InvalidSource, Refused)
from leastpromise.events import view_of
from leastpromise.programs import need_program
from leastpromise.runs import datum_behind, run_steps, trace_of
from tests.samples import (
    AND, ANY, HUGE, XOR, data_of, is_tupled, outcome, some_programs, try_judge, try_order, try_wrong)

FRAME = (2, 2, 0, (XOR,), 1)
FORK = (("fork", 0, (), (("op", 0, 1, 1, 1),)),)
FRAMES = [FRAME, (2, 2, 0, (AND, XOR), 2), (2, 1, 2, (AND,), 1), (2, 1, 2, (XOR,), 2)]
LOTS = [(), (6,), (7,), (6, 7), (0, 6), (8,), (8, 9), (2, 4, 8), (0, 1, 6, 7), tuple(range(10))]


def all_places(rows, ahead=()):
    """The places of all sides, within the others, too."""
    told = []
    for at, row in enumerate(rows):
        if row[0] == "loop":
            told += all_places(row[2], ahead + (at,))
        elif row[0] == "fork":
            for side in (0, 1):
                told.append(ahead + (at, side))
                told += all_places(row[2 + side], ahead + (at, side))
    return sorted(told)


def with_fence(rows, place):
    """The program with one more fence at the begin of a side."""
    rows = list(rows)
    row = list(rows[place[0]])
    part = 2 if row[0] == "loop" else 2 + place[1]
    rest = place[1:] if row[0] == "loop" else place[2:]
    row[part] = with_fence(row[part], rest) if rest else (("fence",),) + row[part]
    rows[place[0]] = tuple(row)
    return tuple(rows)


def fenced_slowly(program, places):
    for place in sorted(places, reverse=True):
        program = with_fence(program, place)
    return program


def is_quiet_on(frame, program, lot, classes):
    return all(len({trace_of(frame, program, datum, lot) for datum in part}) == 1 for part in classes)


def is_refused(frame, program, lot, classes):
    """Whether right events or sides are unlike in some class: traces by a frame without wrong ways."""
    dry = frame[:4] + (0,)
    return not is_quiet_on(dry, program, lot, classes)


def some_classes(draw, frame):
    data = data_of(frame)
    some = draw.sample(data, min(len(data), draw.randrange(2, 6)))
    cut = draw.randrange(1, len(some) + 1)
    return [sorted(part) for part in (some[:cut], some[cut:]) if part]


def some(many, seed):
    """(frame, program, lot, classes): about half of them with loud sides, if there are such."""
    for frame in FRAMES:
        draw = random.Random(f"{seed} {frame}")
        loud = 0
        for program in some_programs(frame, many * 20, most=3, seed=seed):
            lot = draw.choice([(6,), (7,), (8,), (6, 7), (8, 9), (6, 9)])
            places = sorted(draw.sample(range(frame[1] + frame[2]), frame[1] + frame[2] - 1))
            classes = list(open_classes(frame, places))
            classes = sorted(draw.sample(classes, 2))
            told = outcome(loud_sides, frame, program, lot, classes)
            if told[0] == "told" and told[1] and loud < many // 2:
                loud += 1
                yield frame, program, lot, classes
        for program in some_programs(frame, many // 2, seed=seed + 1):
            yield frame, program, draw.choice(LOTS), some_classes(draw, frame)


class LoudTest(unittest.TestCase):
    def test_by_hand(self):
        classes = open_classes(FRAME, (0,))
        self.assertEqual(loud_sides(FRAME, FORK, (6,), classes), ((0, 1),))
        self.assertEqual(loud_sides(FRAME, FORK, (), classes), ())
        self.assertEqual(loud_sides(FRAME, (), (6,), classes), ())
        self.assertEqual(outcome(loud_sides, FRAME, FORK, (0,), classes), (Refused, "right"))
        self.assertEqual(outcome(loud_sides, FRAME, FORK, (), [data_of(FRAME)]), (Refused, "right"))
        self.assertEqual(loud_sides(FRAME, FORK, (0, 6), [[datum] for datum in data_of(FRAME)]), ())

    def test_loops_and_forks_within(self):
        # A loop's rows are there once; a side that goes wrong goes through its loops' first rows.
        op, still = ("op", 0, 1, 1, 1), ("op", 0, 0, 0, 0)
        inner = ("fork", 0, (), (("loop", 2, (op,)),))
        program = (("fence",), ("loop", 3, (inner,)), ("fork", 0, (("loop", 0, (op,)), ("fork", 0, (), (op,))), (still,)))
        classes = [[(0, 0), (0, 1)]]
        self.assertEqual(loud_sides(FRAME, program, (6, 7), classes), ((1, 0, 1), (2, 0, 1, 1)))
        self.assertEqual(loud_sides(FRAME, (("loop", 0, (inner,)),), (6,), classes), ())
        self.assertEqual(
            fenced_program(FRAME, program, ((1, 0, 1), (2, 0, 1, 1))),
            (("fence",), ("loop", 3, (("fork", 0, (), (("fence",), ("loop", 2, (op,)))),)),
             ("fork", 0, (("loop", 0, (op,)), ("fork", 0, (), (("fence",), op))), (still,))))

    def test_some_turns_alone(self):
        # Just at the first turn registers are unlike.
        body = (("fork", 0, (), (("op", 0, 1, 1, 1),)), ("op", 0, 1, 1, 1))
        self.assertEqual(loud_sides(FRAME, (("loop", 4, body),), (7,), [[(0, 0), (0, 1)]]), ((0, 0, 1),))
        self.assertEqual(loud_sides(FRAME, (body[1], ("loop", 4, body)), (7,), [[(0, 0), (0, 1)]]), ())

    def test_just_the_sides_that_are_needed(self):
        seen, refused = 0, 0
        for frame, program, lot, classes in some(45, 63):
            told = outcome(loud_sides, frame, program, lot, classes)
            self.assertEqual(told == (Refused, "right"), is_refused(frame, program, lot, classes))
            places = all_places(program)
            if told[0] != "told":
                refused += 1
                # No fences make it quiet.
                self.assertFalse(is_quiet_on(frame, fenced_slowly(program, places), lot, classes))
                continue
            sides = told[1]
            self.assertTrue(is_tupled(sides))
            self.assertEqual(list(sides), sorted(set(sides)))
            self.assertTrue(set(sides) <= set(places))
            seen += bool(sides)
            for many in range(min(len(places), 3) + 1):
                for lots in list(itertools.combinations(places, many))[:6] + [sides]:
                    fenced = fenced_program(frame, program, tuple(sorted(lots)))
                    self.assertEqual(fenced, fenced_slowly(program, lots))
                    self.assertEqual(is_quiet_on(frame, fenced, lot, classes), set(sides) <= set(lots))
        self.assertGreater(min(seen, refused), 10)

    def test_wrong_places(self):
        op = ("op", 0, 1, 1, 1)
        program = (("fork", 0, (op,), (("loop", 2, (("fork", 1, (), ()),)),)), op, ("loop", 0, (FORK[0],)))
        told = lambda sides: outcome(fenced_program, FRAME, program, sides)
        right = all_places(program)
        self.assertEqual(right, [(0, 0), (0, 1), (0, 1, 0, 0, 0), (0, 1, 0, 0, 1), (2, 0, 0), (2, 0, 1)])
        self.assertEqual(told(right), told(tuple(right)))
        self.assertEqual(told([]), ("told", program))
        for value in (None, 0, "01", True):
            self.assertEqual(told(value), (InvalidRows, -1), value)
        for wrong in (
                (0, 0), (0,), (), (0, 2), (0, True), (0, -1), (1, 0), (3, 0), (0, 0, 0), (0, 1, 0), (0, 1, 0, 0), (2, 0), (2, 1),
                (0, 1, 0, 0, 2), (0, 1, 0, 0, 0, 0), (0, 1, 0, 1, 0), [0, 1], None, 0, "01", (0, None), (HUGE, 0), (0, HUGE),
                (2, 0, 0, 0), (2, 0, 1, 0, 0), ((0, 1),), ("0", 1), (False, 1)):
            self.assertEqual(told([(0, 0), wrong, None]), (InvalidRows, 1), wrong)
        self.assertEqual(told([(0, 1), (0, 0)]), (InvalidRows, 1))
        self.assertEqual(told([[0, 0]]), (InvalidRows, 0))

    def test_any_values(self):
        good = (FRAME, FORK, (6,), [[(0, 0), (0, 1)]])
        errors = {1: InvalidProgram, 2: InvalidLot, 3: InvalidSource}
        wrong = {
            0: (None, (InvalidFrame, -1)), 1: ((0,), (InvalidProgram, 0)), 2: ([3, 3], (InvalidLot, 1)),
            3: ([], (InvalidSource, -1))}
        for value in ANY:
            for place in errors:
                told = outcome(loud_sides, *good[:place], value, *good[place + 1:])
                self.assertTrue(told[0] in ("told", errors[place]) or told == (Refused, "right"), (place, value, told))
        try_order(self, loud_sides, good, wrong)
        # What is refused comes last.
        self.assertEqual(outcome(loud_sides, FRAME, FORK, (0,), [[(0, 0), (0, 1)], None]), (InvalidSource, 1))
        self.assertEqual(outcome(loud_sides, FRAME, FORK, (0,), [[(1, 0), (1, 1)]]), (Refused, "right"))
        sides = (FRAME, FORK, ((0, 1),))
        try_wrong(self, fenced_program, (FRAME, (), ()), {0: InvalidFrame, 2: InvalidRows})
        try_order(self, fenced_program, sides, {0: wrong[0], 1: wrong[1], 2: (((0, 2),), (InvalidRows, 0))})


class CompiledTest(unittest.TestCase):
    def test_the_printed_example(self):
        told = compiled(FRAME, (6,), open_classes(FRAME, (0,)), (0, 1), FORK)
        self.assertEqual(told, ("fenced", (("fork", 0, (), (("fence",), ("op", 0, 1, 1, 1))),), ((0, 1),)))
        paper = silent_paper(FRAME, (0, 1), open_classes(FRAME, (0,)), (1,), (("op", 0, 1, 1, 1),))
        self.assertEqual(paper[0], "way")

    def questions(self, many, seed):
        draw = random.Random(seed)
        for frame, program, lot, classes in some(many, seed):
            spots = range(frame[1] + frame[2])
            yield frame, lot, classes, sorted(draw.sample(spots, draw.randrange(len(spots) + 1))), program

    def test_what_is_told(self):
        words = []
        for args in self.questions(30, 64):
            frame, lot, classes, places, program = args
            told = compiled(*args)
            words.append(told[0])
            self.assertTrue(is_tupled(told))
            self.assertIs(compiled_holds(*args, told), True)
            if is_refused(frame, program, lot, classes):
                word, value = silent_paper(*args)
                self.assertEqual(told, ({"way": "silent", "closed": "none"}[word], value))
            else:
                sides = loud_sides(frame, program, lot, classes)
                self.assertEqual(told, ("fenced", fenced_program(frame, program, sides), sides))
            if told[0] != "none":
                need_program(frame, told[1])
                self.assertTrue(is_quiet_on(frame, told[1], lot, classes))
                for datum in itertools.chain(*classes):
                    left, wanted = datum_behind(frame, told[1], datum), datum_behind(frame, program, datum)
                    self.assertEqual([left[place] for place in places], [wanted[place] for place in places])
        self.assertEqual(set(words), {"fenced", "silent", "none"})
        self.assertGreater(min(map(words.count, set(words))), 4)

    def test_one_side_without_its_fence(self):
        # Some processor that keeps the lot shows two data of one class then.
        seen = 0
        for frame, lot, classes, places, program in self.questions(40, 65):
            told = compiled(frame, lot, classes, places, program)
            for side in told[2] if told[0] == "fenced" else ():
                rows = fenced_program(frame, program, tuple(other for other in told[2] if other != side))
                pairs = [
                    (one, other) for part in classes for one, other in itertools.combinations(part, 2)
                    if trace_of(frame, rows, one, lot) != trace_of(frame, rows, other, lot)]
                self.assertTrue(pairs)
                processor = parting_processor(frame, rows, *pairs[0], lot)
                self.assertTrue(is_kept(frame, processor, lot))
                views = [[view_of(frame, processor, way, datum) for datum in pairs[0]] for way in (rows, told[1])]
                self.assertNotEqual(*views[0])
                self.assertEqual(*views[1])
                seen += 1
        self.assertGreater(seen, 10)

    def test_changed_papers(self):
        classes = open_classes(FRAME, (0,))
        args = (FRAME, (6,), classes, (0, 1), FORK)
        told = compiled(*args)
        judge = lambda value: compiled_holds(*args, value)
        try_judge(self, judge, told, lambda value: value == told)
        more = fenced_program(FRAME, FORK, ((0, 0), (0, 1)))
        for value in (
                ("fenced", more, ((0, 0), (0, 1))), ("fenced", FORK, ()), ("fenced", told[1], ()), ("silent", ()), ("none", ()),
                ("silent", (("op", 0, 1, 1, 1),)), ("fenced", told[1], [(0, 1)]), ("fenced", told[1], ([0, 1],))):
            self.assertIs(judge(value), False, value)

    def test_silent_papers(self):
        classes = [data_of(FRAME)]
        fork = (("fork", 1, (("op", 0, 0, 0, 0),), (("op", 0, 0, 0, 0),)),)
        args = (FRAME, (), classes, (0, 1), fork)
        told = compiled(*args)
        self.assertEqual(told, ("silent", (("op", 0, 0, 0, 0),)))
        for value in ANY + [("silent", told[1] * 2), ("none", ((),)), ("way", told[1]), ("silent", told[1], ())]:
            silent = isinstance(value, tuple) and len(value) == 2 and value[0] == "silent"
            expected = silent and silent_holds(*args, ("way", value[1]))
            self.assertIs(compiled_holds(*args, value), expected, value)
        self.assertIs(compiled_holds(*args, ("silent", told[1] * 3)), True)
        try_judge(self, lambda value: compiled_holds(*args, value), told)

    def test_papers_of_none(self):
        classes = open_classes(FRAME, (0,))
        args = (FRAME, (0, 1), classes, (1,), (("op", 0, 1, 0, 1),))
        told = compiled(*args)
        self.assertEqual(told[0], "none")
        self.assertEqual(told[1], silent_paper(*args)[1])
        judge = lambda value: compiled_holds(*args, value)
        self.assertIs(judge(told), True)
        self.assertIs(judge(("none", list(told[1]))), False)
        self.assertIs(judge(("none", told[1][:-1])), False)
        self.assertIs(judge(("closed", told[1])), False)
        self.assertIs(judge(("silent", told[1])), False)
        small = (FRAME, (0, 1), [[(0, 0), (0, 1)]], (1,), (("op", 0, 1, 0, 1), ("fork", 1, (), (("op", 0, 1, 1, 1),))))
        try_judge(self, lambda value: compiled_holds(*small, value), compiled(*small))

    def test_any_values(self):
        good = (FRAME, (), [[(0, 0), (0, 1)]], (0,), ())
        errors = {0: InvalidFrame, 1: InvalidLot, 2: InvalidSource, 3: InvalidIndex, 4: InvalidProgram}
        wrong = {
            0: (None, (InvalidFrame, -1)), 1: ([10], (InvalidLot, 0)), 2: ([], (InvalidSource, -1)),
            3: ((0, 0), (InvalidIndex, 1)), 4: ((0,), (InvalidProgram, 0))}
        for function, args in ((compiled, good), (compiled_holds, good + (None,))):
            try_order(self, function, args, wrong)
            for value in ANY:
                for place, error in errors.items():
                    told = outcome(function, *args[:place], value, *args[place + 1:])
                    self.assertIn(told[0], ("told", error) + ((InvalidSource, InvalidDatum) if place == 0 else ()))

    def test_lists_and_names(self):
        classes = [[(0, 0), (0, 1)], ((1, 0),)]
        told = compiled(frame=FRAME, lot=[6], classes=classes, places=[0, 1], program=FORK)
        self.assertEqual(told, compiled(FRAME, (6,), (((0, 0), (0, 1)), ((1, 0),)), (0, 1), FORK))
        self.assertEqual(classes, [[(0, 0), (0, 1)], ((1, 0),)])
        self.assertEqual(run_steps(FRAME, told[1], (0, 1))[0][1], ())


if __name__ == "__main__":
    unittest.main()
