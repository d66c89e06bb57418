"""[61], [62]: open classes, silent rows."""

import itertools
import random
import unittest

from leastpromise.compiler import open_classes, silent_holds, silent_paper
from leastpromise.errors import InvalidFrame, InvalidIndex, InvalidLot, InvalidProgram, InvalidSource
from leastpromise.runs import datum_behind, run_steps
from tests.samples import ANY, AND, HUGE, XOR, data_of, is_tupled, outcome, some_programs, try_order, try_wrong

FRAME = (2, 2, 0, (XOR,), 1)
FRAMES = [FRAME, (2, 1, 2, (AND,), 1), (2, 2, 0, (AND, XOR), 0), (2, 1, 2, (), 0)]
FIRST_ATOMS = {"op": 0, "load": 2, "store": 4}
XOR_SELF = (("op", 0, 1, 1, 1),)


def plain_rows(frame):
    registers = range(frame[1])
    rows = [("op",) + rest for rest in itertools.product(range(len(frame[3])), registers, registers, registers)]
    if frame[2]:
        rows += [(word,) + rest for word in ("load", "store") for rest in itertools.product(registers, registers)]
    return rows


def quiet_step(frame, lot, state, row):
    """The state behind a row, or None if it isn't quiet by the lot on each class."""
    later = []
    for part in state:
        shown = set()
        for datum in part:
            event = run_steps(frame, (row,), datum)[0][0]
            first = FIRST_ATOMS[event[0]]
            shown.add(tuple(event[-2:][atom - first] for atom in lot if atom - first in (0, 1)))
        if len(shown) > 1:
            return None
        later.append(tuple(datum_behind(frame, (row,), datum) for datum in part))
    return tuple(later)


def slow_levels(frame, lot, begin):
    """For each state that quiet silent rows lead to how few rows do."""
    levels, waiting = {begin: 0}, [begin]
    for state in waiting:
        for row in plain_rows(frame):
            later = quiet_step(frame, lot, state, row)
            if later is not None and later not in levels:
                levels[later] = levels[state] + 1
                waiting.append(later)
    return levels


def shown(state, places):
    return [[[datum[place] for place in places] for datum in part] for part in state]


def wanted(frame, program, begin, places):
    return shown([[datum_behind(frame, program, datum) for datum in part] for part in begin], places)


class ClassesTest(unittest.TestCase):
    def test_open_classes(self):
        self.assertEqual(open_classes(FRAME, (0,)), (((0, 0), (0, 1)), ((1, 0), (1, 1))))
        self.assertEqual(open_classes(FRAME, [1]), (((0, 0), (1, 0)), ((0, 1), (1, 1))))
        self.assertEqual(open_classes(FRAME, []), (tuple(data_of(FRAME)),))
        self.assertEqual(open_classes(FRAME, (0, 1)), tuple((datum,) for datum in data_of(FRAME)))
        cells = (3, 1, 3, (), 0)
        for places in ((), (3,), (0, 2), (0, 1, 2, 3)):
            told = open_classes(frame=cells, places=places)
            self.assertEqual(sorted(datum for part in told for datum in part), data_of(cells))
            self.assertEqual(told, tuple(sorted(tuple(sorted(part)) for part in told)))
            seen = [{tuple(datum[place] for place in places) for datum in part} for part in told]
            self.assertTrue(all(len(values) == 1 for values in seen))
            self.assertEqual(len(told), len(set.union(*seen)))

    def test_wrong_places(self):
        def told(places):
            return outcome(open_classes, FRAME, places)
        for value in (None, 0, "01", True):
            self.assertEqual(told(value), (InvalidIndex, -1))
        for wrong in (2, -1, True, None, "1", HUGE, (1,), 0):
            self.assertEqual(told([0, wrong, None]), (InvalidIndex, 1), wrong)
        try_wrong(self, open_classes, (FRAME, ()), {0: InvalidFrame, 1: InvalidIndex})
        try_order(self, open_classes, (FRAME, ()), {0: (None, (InvalidFrame, -1)), 1: ([1, 0], (InvalidIndex, 1))})


class SilentTest(unittest.TestCase):
    def test_the_printed_example(self):
        paper = silent_paper(FRAME, (0, 1), open_classes(FRAME, (0,)), (1,), XOR_SELF)
        self.assertEqual(paper[0], "way")
        # Atoms 0 and 1 let just register 0 be read: so 0 is made of it twice.
        self.assertEqual(paper, ("way", (("op", 0, 1, 0, 0),)))

    def test_few_by_hand(self):
        classes = open_classes(FRAME, ())
        self.assertEqual(silent_paper(FRAME, (), classes, (0, 1), ()), ("way", ()))
        self.assertEqual(silent_paper(FRAME, (0, 1), classes, (0, 1), ()), ("way", ()))
        self.assertEqual(silent_paper(FRAME, (0, 1), classes, (), XOR_SELF), ("way", ()))
        self.assertEqual(silent_paper(FRAME, (0, 1), classes, (1,), XOR_SELF), ("closed", (classes,)))
        self.assertEqual(silent_paper(FRAME, (), classes, (1,), XOR_SELF)[0], "way")
        single = [[(0, 1)]]
        self.assertEqual(silent_paper(FRAME, tuple(range(10)), single, [1], XOR_SELF), (
            "way", silent_paper(FRAME, (), single, (1,), XOR_SELF)[1]))

    def some(self, seed):
        draw = random.Random(seed)
        for frame in FRAMES:
            data = data_of(frame)
            for program in some_programs(frame, 12, seed=seed):
                some = draw.sample(data, min(len(data), 4))
                cut = draw.randrange(1, len(some) + 1)
                classes = [sorted(part) for part in (some[:cut], some[cut:]) if part]
                spots = frame[1] + frame[2]
                places = sorted(draw.sample(range(spots), draw.randrange(spots + 1)))
                lot = draw.choice(((), (0,), (1,), (2, 4), (0, 1, 5), (3,), tuple(range(10))))
                yield frame, lot, classes, places, program

    def test_papers_against_all_states(self):
        words = set()
        for args in itertools.chain(self.some(61), self.some(62)):
            frame, lot, classes, places, program = args
            paper = silent_paper(*args)
            words.add(paper[0])
            self.assertTrue(is_tupled(paper))
            self.assertIs(silent_holds(*args, paper), True, args)
            begin = tuple(tuple(part) for part in classes)
            levels, goal = slow_levels(frame, lot, begin), wanted(frame, program, begin, places)
            good = [levels[state] for state in levels if shown(state, places) == goal]
            if good:
                self.assertEqual((paper[0], len(paper[1])), ("way", min(good)), args)
                state = begin
                for row in paper[1]:
                    state = quiet_step(frame, lot, state, row)
                self.assertEqual(shown(state, places), goal)
            else:
                self.assertEqual(paper, ("closed", tuple(sorted(levels))), args)
        self.assertEqual(words, {"way", "closed"})

    def test_a_program_leaves_it_for_all_data_of_all_classes(self):
        frame = (2, 2, 0, (AND, XOR), 1)
        fork = (("fork", 0, (("op", 1, 1, 1, 1),), ()),)
        classes = open_classes(frame, (0,))
        paper = silent_paper(frame, (), classes, (0, 1), fork)
        self.assertEqual(paper[0], "way")
        self.assertEqual(len(paper[1]), 1)
        closed = silent_paper(frame, (1,), classes, (0, 1), fork)
        self.assertIs(silent_holds(frame, (1,), classes, (0, 1), fork, closed), True)

    def test_changed_ways(self):
        frame = (2, 2, 2, (XOR,), 0)
        classes = [[(0, 1, 0, 0), (0, 1, 0, 1)]]
        args = (frame, (2, 4), classes, (0,), (("load", 0, 1),))
        way = ("way", (("load", 0, 1),))
        self.assertIs(silent_holds(*args, way), True)
        longer = ("way", (("store", 0, 0), ("op", 0, 0, 0, 0), ("load", 0, 1)))
        self.assertIs(silent_holds(*args, longer), True)
        loud = ("way", (("load", 0, 1), ("load", 1, 0), ("load", 0, 0)))
        self.assertIs(silent_holds(*args, loud), False)
        self.assertIs(silent_holds(frame, (2, 3), *args[2:], way), False)
        for value in (
                ["way", way[1]], ("way", list(way[1])), ("way", (["load", 0, 1],)), ("way", (("load", 0, True),)), ("way", ()),
                ("way", (("load", 0, 2),)), ("way", (("load", 0, 1), ("fence",))), ("way", (("fence",), ("load", 0, 1))),
                ("way", (("loop", 1, way[1]),)), ("way", (("fork", 0, way[1], way[1]),)), ("way", way[1], ()), ("way",),
                ("way", (("load", 1, 1),)), ("closed", way[1]), ("way", (None,)), ("way", ((),))):
            self.assertIs(silent_holds(*args, value), False, value)

    def test_changed_states(self):
        frame = (2, 2, 0, (XOR,), 0)
        classes = (((0, 0), (0, 1)),)
        self.assertEqual(silent_paper(frame, (0, 1), classes, (1,), (("op", 0, 1, 0, 0),))[0], "way")
        program = (("fork", 1, (), (("op", 0, 0, 1, 0),)),)
        args = (frame, (0, 1), classes, (0,), program)
        paper = silent_paper(*args)
        self.assertEqual(paper, ("closed", ((((0, 0), (0, 0)),), (((0, 0), (0, 1)),))))
        states = paper[1]
        self.assertIs(silent_holds(*args, paper), True)
        self.assertIs(silent_holds(frame, (0, 1), [list(classes[0])], [0], program, paper), True)
        for value in (
                ["closed", states], ("closed", list(states)), ("closed", states[::-1]), ("closed", states[:1]),
                ("closed", states[1:]), ("closed", states + states[1:]), ("closed", ()), ("closed",), ("way", states),
                ("closed", states, ()), ("closed", states + ((((0, 1), (0, 1), (0, 1)),),)),
                ("closed", states + ((((0, 1), (0, 2)),),)), ("closed", states + ((((0, 1), (0, True)),),)),
                ("closed", states + ((((0, 1), [0, 1]),),)), ("closed", states + (([(0, 1), (0, 1)],),)),
                ("closed", states + ([((0, 1), (0, 1))],)), ("closed", states + (None,)),
                ("closed", states + ((((0, 0), (1, 0)),),)), ("closed", states + ((),)),
                ("closed", states + (((),),)), ("closed", states + ((((0, 1), (0, 1)), ((0, 1), (0, 1))),))):
            self.assertIs(silent_holds(*args, value), False, value)

    def test_any_closed_states_without_what_is_left(self):
        frame = (2, 1, 0, ((0, 0, 0, 0),), 0)
        args = (frame, (0,), [[(0,), (1,)]], (0,), (("op", 0, 0, 0, 0),))
        own = ("closed", ((((0,), (1,)),)),)
        self.assertEqual(silent_paper(*args), ("closed", ((((0,), (1,)),),)))
        more = ("closed", ((((0,), (1,)),), (((1,), (0,)),)))
        self.assertIs(silent_holds(*args, silent_paper(*args)), True)
        self.assertIs(silent_holds(*args, more), True)
        # All zeros are just what the program leaves; from all ones a quiet row leads there.
        self.assertIs(silent_holds(*args, ("closed", ((((0,), (0,)),), (((0,), (1,)),)))), False)
        self.assertIs(silent_holds(*args, ("closed", ((((0,), (1,)),), (((1,), (1,)),)))), False)
        self.assertIs(silent_holds(*args, own), False)

    def test_wrong_classes(self):
        def told(classes):
            paper = outcome(silent_paper, FRAME, (), classes, (), ())
            self.assertEqual(paper[0] == "told", outcome(silent_holds, FRAME, (), classes, (), (), None)[0] == "told")
            return paper
        for value in (None, 0, "01", True, [], ()):
            self.assertEqual(told(value), (InvalidSource, -1), value)
        wrong = [
            None, 0, [], (), [(0, 1), (0, 0)], [(0, 0), (0, 0)], [(0, 2)], [[0, 0]], [(0, True)], "ab", [(1, 0)],
            [(0, 1), (1, 0)], [None], [(0, 0), (1, 0)], [(0,)]]
        for part in wrong:
            self.assertEqual(told([[(1, 0)], part, None]), (InvalidSource, 1), part)
        self.assertEqual(told([[(1, 0)], ((0, 0), (0, 1)), [(1, 1)]])[0], "told")

    def test_any_values(self):
        good = (FRAME, (), [[(0, 0), (1, 1)]], (0,), ())
        errors = {1: InvalidLot, 2: InvalidSource, 3: InvalidIndex, 4: InvalidProgram}
        wrong = {
            0: (None, (InvalidFrame, -1)), 1: ([10], (InvalidLot, 0)), 2: ([], (InvalidSource, -1)),
            3: ((0, 0), (InvalidIndex, 1)), 4: ((0,), (InvalidProgram, 0))}
        try_wrong(self, silent_paper, good, errors)
        try_order(self, silent_paper, good, wrong)
        try_wrong(self, silent_holds, good + (None,), errors)
        try_order(self, silent_holds, good + (None,), wrong)
        for value in ANY:
            self.assertIs(silent_holds(FRAME, (0, 1), [[(0, 0), (0, 1)]], (1,), (("op", 0, 1, 0, 1),), value),
                          value == ("way", ()), value)
            self.assertIs(silent_holds(FRAME, (0, 1), [[(0, 0), (0, 1)]], (0,), (("op", 0, 0, 1, 0),), value), False, value)

    def test_arguments_stay(self):
        lot, classes, places = [0, 1], [[(0, 0), (1, 1)], ((0, 1),)], [1]
        told = silent_paper(frame=FRAME, lot=lot, classes=classes, places=places, program=XOR_SELF)
        self.assertEqual(told, silent_paper(FRAME, (0, 1), (((0, 0), (1, 1)), [(0, 1)]), (1,), XOR_SELF))
        self.assertEqual((lot, classes, places), ([0, 1], [[(0, 0), (1, 1)], ((0, 1),)], [1]))


if __name__ == "__main__":
    unittest.main()
