"""[56], [57]: forks away."""

import itertools
import random
import unittest

from leastpromise.choosing import choosing_paper
from leastpromise.errors import InvalidDatum, InvalidFrame, InvalidLot, InvalidProgram, InvalidRows
from leastpromise.forkless import straight_holds, straight_paper, straight_values, straightened
from leastpromise.programs import unrolled
from leastpromise.runs import datum_behind, trace_of
from tests.samples import (
    ANY, AND, HUGE, SUM3, XOR, data_of, is_tupled, outcome, slow_run, some_programs, try_order, try_wrong)

NAND = (1, 1, 1, 0)
OR = (0, 1, 1, 1)
FALLS = (0, 0, 1, 0)
FRAME = (2, 2, 0, (AND,), 1)
FRAMES = [(2, 1, 0, (NAND,), 1), (2, 2, 0, (NAND, AND), 0), (2, 3, 0, (XOR, AND), 2), (2, 3, 0, (OR, FALLS, NAND), 1)]
CELLS = (2, 1, 2, (NAND,), 0)


def written(rows):
    """The registers that rows write, or rows within them."""
    told = set()
    for row in rows:
        if row[0] == "op":
            told.add(row[2])
        elif row[0] == "fork":
            told |= written(row[2] + row[3])
    return told


def most_steps(rows, way):
    """How many steps there may be at the most, of unrolled rows."""
    many = 0
    for row in rows:
        if row[0] == "op":
            many += 1
        elif row[0] == "fork":
            many += len(way) * len(written(row[2] + row[3])) + most_steps(row[2], way) + most_steps(row[3], way)
    return many


def slow_lot(frame, lot, data):
    """The least lot of rows of values, by asking all again and again."""
    size, tables = frame[0], frame[3]
    rows = {tuple(datum[spot] for datum in data) for spot in range(frame[1])}
    while True:
        more = set()
        for one, other, table in itertools.product(rows, rows, tables):
            if (0 not in lot or len(set(one)) == 1) and (1 not in lot or len(set(other)) == 1):
                more.add(tuple(table[first * size + second] for first, second in zip(one, other)))
        if more <= rows:
            return tuple(sorted(rows))
        rows |= more


class StraightenedTest(unittest.TestCase):
    def test_without_forks_the_same_steps(self):
        way = choosing_paper((NAND,))[1]
        program = (("op", 0, 1, 0, 1), ("fence",), ("loop", 2, (("op", 0, 0, 1, 1),)))
        frame = (2, 2, 0, (NAND,), 0)
        self.assertEqual(straightened(frame, way, program), (((0, 0, 1), (0, 2, 2), (0, 2, 2)), (4, 2)))
        self.assertEqual(straightened(frame, way, ()), ((), (0, 1)))
        self.assertEqual(straightened(frame, way, (("fork", 0, (("fence",),), ()),)), ((), (0, 1)))

    def test_what_programs_leave_of_all_data(self):
        for frame in FRAMES:
            way = choosing_paper(frame[3])[1]
            for program in some_programs(frame, 40, seed=56):
                steps, ends = straightened(frame, way, program)
                self.assertTrue(is_tupled((steps, ends)))
                self.assertEqual(len(ends), frame[1])
                self.assertLessEqual(len(steps), most_steps(unrolled(frame, program), way))
                for datum in data_of(frame):
                    values = straight_values(frame, steps, datum)
                    self.assertEqual(len(values), frame[1] + len(steps))
                    self.assertEqual(tuple(values[end] for end in ends), slow_run(frame, program, datum)[1])

    def test_any_way_that_chooses(self):
        frame = (2, 2, 0, ((1, 0, 0, 0),), 0)
        way = ((0, 0, 0), (0, 1, 1), (0, 2, 2), (0, 0, 4), (0, 3, 5), (0, 6, 7), (0, 8, 8))
        program = (("fork", 0, (("op", 0, 0, 1, 1), ("op", 0, 1, 0, 1)), (("op", 0, 1, 1, 1),)),)
        steps, ends = straightened(frame, way, program)
        for datum in data_of(frame):
            values = straight_values(frame, steps, datum)
            self.assertEqual(tuple(values[end] for end in ends), datum_behind(frame, program, datum))

    def test_steps_as_rows_are_quiet_without_atoms_0_and_1(self):
        frame = (2, 2, 0, (NAND,), 1)
        way = choosing_paper((NAND,))[1]
        for program in some_programs(frame, 10, seed=57):
            steps, ends = straightened(frame, way, program)
            many = 2 + len(steps)
            if many <= 4:
                wide = (2, many, 0, (NAND,), 1)
                rows = tuple(("op", table, 2 + at, one, other) for at, (table, one, other) in enumerate(steps))
                traces = {trace_of(wide, rows, datum, (2, 3, 4, 5, 6, 7, 8, 9)) for datum in data_of(wide)}
                self.assertEqual(len(traces), 1)

    def test_straight_values(self):
        self.assertEqual(straight_values(FRAME, ((0, 0, 1), (0, 2, 0)), (1, 1)), (1, 1, 1, 1))
        self.assertEqual(straight_values(FRAME, (), (1, 0)), (1, 0))
        three = (3, 2, 0, (SUM3,), 0)
        self.assertEqual(straight_values(three, ((0, 0, 1), (0, 2, 2)), (2, 2)), (2, 2, 1, 2))

    def test_wrong_ways(self):
        frame = (2, 2, 0, (NAND,), 0)
        way = choosing_paper((NAND,))[1]
        for value in ANY + [way[:-1], way + ((0, 0, 0),), list(way), way[:-1] + (list(way[-1]),), ("way", way),
                            ((1,) + way[0][1:],) + way[1:], ((False,) + way[0][1:],) + way[1:]]:
            self.assertEqual(outcome(straightened, frame, value, None), (InvalidRows, -1), value)
        self.assertEqual(outcome(straightened, FRAME, way, ()), (InvalidRows, -1))

    def test_wrong_steps(self):
        for value in ANY:
            if value != ():
                self.assertEqual(outcome(straight_values, FRAME, value, None), (InvalidRows, -1), value)
        for step in ((0, 2, 0), (0, 0, 2), (1, 0, 0), (-1, 0, 0), (0, True, 0), [0, 0, 0], (0, 0), (0, 0, 0, 0),
                     (0, 0, HUGE), (0, None, 0), None):
            self.assertEqual(outcome(straight_values, FRAME, (step,), (0, 0)), (InvalidRows, -1), step)
            self.assertEqual(outcome(straight_values, FRAME, ((0, 0, 0), (0, 2, 2), step), (0, 0))[0] == "told",
                             step in ((0, 2, 0), (0, 0, 2)))
        self.assertEqual(outcome(straight_values, FRAME, [], (0, 0)), (InvalidRows, -1))

    def test_wrong_frames_and_the_order(self):
        way = choosing_paper((NAND,))[1]
        dry, three = (2, 1, 0, (NAND,), 0), (3, 1, 0, (), 0)
        self.assertEqual(outcome(straightened, three, None, None), (InvalidFrame, 0))
        self.assertEqual(outcome(straightened, CELLS, None, None), (InvalidFrame, 2))
        self.assertEqual(outcome(straight_values, CELLS, None, None), (InvalidFrame, 2))
        self.assertEqual(outcome(straight_values, three, (), (2,)), ("told", (2,)))
        try_wrong(self, straightened, (dry, way, ()), {1: InvalidRows, 2: InvalidProgram})
        try_wrong(self, straight_values, (dry, (), (0,)), {1: InvalidRows, 2: InvalidDatum})
        for value in ANY:
            self.assertEqual(outcome(straight_values, dry, ((0, 0, 0),), value)[0] == "told", value in ((0,), (1,)) and not
                             isinstance(value[0], bool))
        try_order(self, straightened, (dry, way, ()), {
            0: ((2, 0, 0, (), 0), (InvalidFrame, 1)), 1: (list(way), (InvalidRows, -1)), 2: ((1,), (InvalidProgram, 0))})
        try_order(self, straight_values, (dry, (), (0,)), {
            0: (None, (InvalidFrame, -1)), 1: ([], (InvalidRows, -1)), 2: ([0], (InvalidDatum, -1))})


class StraightPaperTest(unittest.TestCase):
    DATA = [(0, 0), (0, 1), (1, 0), (1, 1)]
    FORK = (("fork", 0, (("op", 0, 1, 0, 0),), ()),)

    def test_the_printed_example(self):
        self.assertEqual(straight_paper(FRAME, (), self.DATA, self.FORK)[0], "way")
        self.assertEqual(
            straight_paper(FRAME, (0,), self.DATA, self.FORK), ("lot", ((0, 0, 1, 1), (0, 1, 0, 1))))

    def check(self, frame, lot, data, program):
        paper = straight_paper(frame, list(lot), data, program)
        self.assertTrue(is_tupled(paper))
        self.assertIs(straight_holds(frame, lot, data, program, paper), True)
        rows = slow_lot(frame, lot, data)
        left = [slow_run(frame, program, datum)[1] for datum in data]
        wanted = [tuple(datum[spot] for datum in left) for spot in range(frame[1])]
        self.assertEqual(paper[0], "way" if all(row in rows for row in wanted) else "lot")
        if paper[0] == "lot":
            self.assertEqual(paper, ("lot", rows))
        else:
            _, steps, ends = paper
            self.assertEqual(len(ends), frame[1])
            values = [tuple(datum[spot] for datum in data) for spot in range(frame[1])]
            for table, one, other in steps:
                self.assertTrue(0 not in lot or len(set(values[one])) == 1)
                self.assertTrue(1 not in lot or len(set(values[other])) == 1)
                values.append(tuple(frame[3][table][2 * a + b] for a, b in zip(values[one], values[other])))
            self.assertEqual([values[end] for end in ends], wanted)
        return paper[0]

    def test_some_programs_by_all_lots(self):
        draw, words = random.Random(57), set()
        for frame in FRAMES + [FRAME, (2, 2, 0, (), 0)]:
            for program in some_programs(frame, 20, seed=58):
                data = data_of(frame)
                some = draw.sample(data, draw.randrange(1, min(4, len(data)) + 1))
                for lot in ((), (0,), (1,), (0, 1), (2, 6), tuple(range(10))):
                    words.add(self.check(frame, lot, some, program))
        self.assertEqual(words, {"way", "lot"})

    def test_one_value_throughout_may_be_asked(self):
        frame = (2, 2, 0, (NAND,), 0)
        data = [(1, 0), (1, 1)]
        first, second = (("op", 0, 0, 0, 1),), (("op", 0, 0, 1, 0),)
        self.assertEqual(straight_paper(frame, (0,), data, first), ("way", ((0, 0, 1),), (2, 1)))
        self.assertEqual(straight_paper(frame, (1,), data, second), ("way", ((0, 1, 0),), (2, 1)))
        self.assertEqual(straight_paper(frame, (0, 1), data, first), ("lot", ((0, 0), (0, 1), (1, 1))))
        self.assertEqual(straight_paper(frame, (0, 1), data[:1], first)[0], "way")
        self.assertEqual(straight_paper(frame, (0,), [(0, 1), (1, 1)], first)[0], "way")
        self.assertEqual(straight_paper((2, 2, 0, (AND,), 0), (0, 1), [(0, 1), (1, 0)], first)[0], "lot")

    def test_changed_ways(self):
        frame = (2, 2, 0, (AND, XOR), 0)
        program = (("op", 0, 0, 0, 1), ("op", 1, 1, 0, 1))
        way = ("way", ((0, 0, 1), (1, 2, 1)), (2, 3))
        args = (frame, (), self.DATA, program)
        self.assertIs(straight_holds(*args, way), True)
        self.assertIs(straight_holds(*args, ("way", way[1] + ((0, 3, 3),), (2, 3))), True)
        self.assertIs(straight_holds(*args, ("way", way[1] + ((0, 3, 3),), (2, 4))), True)
        wrong = [
            list(way), ("way", list(way[1]), way[2]), ("way", way[1], list(way[2])), ("way", way[1], (2,)),
            ("way", way[1], (2, 3, 3)), ("way", way[1], (2, 4)), ("way", way[1], (2, -1)), ("way", way[1], (3, 2)),
            ("way", way[1], (2, True)), ("way", way[1][:1], way[2]), ("way", ((0, 0, 1), (1, 3, 1)), (2, 3)), way[:2],
            ("way", ((0, 0, 1), [1, 2, 1]), (2, 3)), ("way", ((0, 0, 1), (2, 2, 1)), (2, 3)), ("way",), way + ((),),
            ("lot", way[1], way[2]), ("way", way[1], (2, None)), ("way", None, way[2])]
        for value in wrong:
            self.assertIs(straight_holds(*args, value), False, value)
        # Not asked well: with atom 0 the first row must have one value throughout, with atom 1 the second one.
        for lot in ((0,), (1,), (0, 1)):
            self.assertIs(straight_holds(frame, lot, self.DATA, program, way), False)
        self.assertIs(straight_holds(frame, (0,), [(0, 1)], program, way), True)

    def test_changed_lots(self):
        args = (FRAME, (0,), self.DATA, self.FORK)
        least, rows = ("lot", ((0, 0, 1, 1), (0, 1, 0, 1))), data_rows(4)
        self.assertIs(straight_holds(*args, least), True)
        # A greater one may have a row of one value, as then AND leads to it, and to nothing new.
        greater = ("lot", ((0, 0, 0, 0), (0, 0, 1, 1), (0, 1, 0, 1)))
        self.assertIs(straight_holds(*args, greater), True)
        left = tuple(zip(*[datum_behind(FRAME, self.FORK, datum) for datum in self.DATA]))
        self.assertIn((0, 0, 0, 1), left)
        wrong = [
            list(least), ("lot", list(least[1])), ("lot", least[1][::-1]), ("lot", least[1] + least[1][1:]),
            ("lot", least[1][:1]), ("lot", least[1][1:]), ("lot", ()), ("lot", rows), ("lot",), least + ((),),
            ("lot", ((0, 0, 1, True), (0, 1, 0, 1))), ("lot", (list(least[1][0]), least[1][1])),
            ("lot", ((0, 0, 1), (0, 1, 0))), ("lot", ((0, 0, 1, 1), (0, 1, 0, 1), (0, 2, 0, 1))), ("way", least[1]),
            ("lot", ((0, 0, 0, 1),) + least[1]), ("closed", least[1])]
        for value in wrong:
            self.assertIs(straight_holds(*args, value), False, value)
        self.assertIs(straight_holds(FRAME, (), self.DATA, self.FORK, least), False)
        # With a row of ones, the second one's rows are led to themselves.
        self.assertIs(straight_holds(*args, ("lot", least[1] + ((1, 1, 1, 1),))), True)

    def test_wrong_data(self):
        for function, rest in ((straight_paper, ((),)), (straight_holds, ((), None))):
            for value in (None, 0, "01", True, [], ()):
                self.assertEqual(outcome(function, FRAME, (), value, *rest), (InvalidDatum, -1), value)
            self.assertEqual(outcome(function, FRAME, (), [(0, 0), (1, 1), (0, 0)], *rest), (InvalidDatum, 2))
            self.assertEqual(outcome(function, FRAME, (), [(0, 0), [0, 1]], *rest), (InvalidDatum, 1))
            wide = (2, 3, 0, (), 0)
            five = data_of(wide)[:5]
            self.assertEqual(outcome(function, wide, (), five, *rest), (InvalidDatum, -1))
            self.assertEqual(outcome(function, wide, (), five[:4] + five[:1], *rest), (InvalidDatum, 4))
            self.assertEqual(outcome(function, wide, (), five[:4], *rest)[0], "told")

    def test_any_values(self):
        good = (FRAME, (), [(0, 0)], ())
        errors = {1: InvalidLot, 2: InvalidDatum, 3: InvalidProgram}
        wrong = {
            0: ((2, 2, 2, (), 0), (InvalidFrame, 2)), 1: ([0, 0], (InvalidLot, 1)), 2: ([None], (InvalidDatum, 0)),
            3: (None, (InvalidProgram, -1))}
        try_wrong(self, straight_paper, good, errors)
        try_order(self, straight_paper, good, wrong)
        try_wrong(self, straight_holds, good + (None,), errors)
        try_order(self, straight_holds, good + (None,), wrong)
        for value in ANY:
            for lot in ((), (0, 1)):
                self.assertIs(straight_holds(FRAME, lot, self.DATA, self.FORK, value), False, value)
        self.assertEqual(outcome(straight_paper, None, None, None, None), (InvalidFrame, -1))

    def test_arguments_stay(self):
        data, lot = [(0, 1), (1, 1)], [0]
        told = straight_paper(frame=FRAME, lot=lot, data=data, program=self.FORK)
        self.assertEqual(told, straight_paper(FRAME, (0,), tuple(data), self.FORK))
        self.assertEqual((data, lot), ([(0, 1), (1, 1)], [0]))


def data_rows(length):
    return tuple(itertools.product((0, 1), repeat=length))


if __name__ == "__main__":
    unittest.main()
