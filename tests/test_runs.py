"""[11], [12]: runs and traces."""

import itertools
import unittest

from leastpromise.errors import InvalidDatum, InvalidFrame, InvalidLot, InvalidProgram
from leastpromise.runs import datum_behind, run_steps, step_atoms, trace_of, traces_parts, unlike_atoms
from tests.samples import AND, FRAMES, HUGE, XOR, data_of, outcome, slow_run, some_programs, try_order, try_wrong

FRAME = (2, 2, 0, (XOR,), 1)
CELLS = (2, 2, 2, (XOR, AND), 3)
FIRST_ATOMS = {"op": 0, "load": 2, "store": 4, "wrong op": 6, "wrong load": 8}
ALL = tuple(range(10))


def slow_atoms(step):
    """For each atom its values, told by going through the step once for each."""
    event, wrong = step
    told = []
    for atom in range(10):
        values = []
        for read in (event,) + wrong:
            first = FIRST_ATOMS.get(read[0])
            if first is not None and atom - first in (0, 1):
                values.append(read[-2:][atom - first])
        told.append(tuple(values))
    return tuple(told)


def slow_trace(steps, lot):
    trace = []
    for event, wrong in steps:
        shown = []
        for read in (event,) + wrong:
            first = FIRST_ATOMS.get(read[0], 99)
            shown.append(tuple(read[-2:][atom - first] for atom in lot if atom - first in (0, 1)))
        trace.append((shown[0], tuple(shown[1:]), event[1] if event[0] == "fork" else None))
    return tuple(trace)


class RunsTest(unittest.TestCase):
    def test_the_printed_example(self):
        program = (("fork", 0, (), (("op", 0, 0, 1, 1),)),)
        self.assertEqual(run_steps(FRAME, program, (0, 1)), ((("fork", 0), (("wrong op", 0, 1, 1),)),))
        self.assertEqual(unlike_atoms(FRAME, program, (0, 0), (0, 1)), ((6, 7), False))

    def test_each_row(self):
        self.assertEqual(run_steps(CELLS, (("op", 1, 0, 0, 1),), (1, 0, 0, 0)), ((("op", 1, 1, 0), ()),))
        self.assertEqual(datum_behind(CELLS, (("op", 0, 0, 0, 1),), (0, 1, 0, 0)), (1, 1, 0, 0))
        self.assertEqual(run_steps(CELLS, (("load", 0, 1),), (0, 1, 0, 1)), ((("load", 1, 1), ()),))
        self.assertEqual(datum_behind(CELLS, (("load", 0, 1),), (0, 1, 0, 1)), (1, 1, 0, 1))
        self.assertEqual(run_steps(CELLS, (("store", 0, 1),), (0, 1, 0, 0)), ((("store", 0, 1), ()),))
        self.assertEqual(datum_behind(CELLS, (("store", 0, 1),), (0, 1, 0, 0)), (0, 1, 1, 0))
        self.assertEqual(run_steps(CELLS, (("fence",),), (0, 1, 0, 0)), ((("fence",), ()),))
        self.assertEqual(run_steps(CELLS, (), (0, 1, 0, 0)), ())
        self.assertEqual(datum_behind(CELLS, (), (0, 1, 0, 0)), (0, 1, 0, 0))
        program = (("fork", 1, (("fence",),), (("store", 1, 1),)),)
        self.assertEqual(run_steps(CELLS, program, (0, 1, 0, 0)), ((("fork", 1), ()), (("store", 1, 1), ())))

    def test_a_load_to_its_own_address(self):
        self.assertEqual(run_steps(CELLS, (("load", 1, 1),), (0, 1, 0, 0)), ((("load", 1, 0), ()),))
        self.assertEqual(datum_behind(CELLS, (("load", 1, 1),), (0, 1, 0, 0)), (0, 0, 0, 0))

    def test_all_as_read_a_second_way(self):
        for frame in FRAMES:
            for program in some_programs(frame, 25):
                for datum in data_of(frame)[::3]:
                    steps, left = slow_run(frame, program, datum)
                    self.assertEqual(run_steps(frame, program, datum), steps)
                    self.assertEqual(datum_behind(frame, program, datum), left)

    def test_three_values(self):
        frame = (3, 2, 3, ((0, 1, 2, 1, 2, 0, 2, 0, 1),), 0)
        program = (("op", 0, 0, 0, 1), ("store", 0, 1), ("load", 1, 0), ("fork", 0, (("fence",),), ()))
        self.assertEqual(run_steps(frame, program, (2, 2, 0, 0, 0)), (
            (("op", 0, 2, 2), ()), (("store", 1, 2), ()), (("load", 1, 2), ()), (("fork", 1), ())))


class WrongEventsTest(unittest.TestCase):
    ROWS = (("op", 0, 0, 0, 1), ("load", 1, 0), ("op", 1, 0, 0, 0), ("op", 0, 1, 1, 1))

    def wrong(self, deep, rows, datum=(0, 1, 0, 0), fork=0):
        frame = CELLS[:4] + (deep,)
        side = 1 if datum[fork] else 0
        sides = ((), rows) if side == 0 else (rows, ())
        steps = run_steps(frame, (("fork", fork) + sides,), datum)
        self.assertEqual(steps[0][0], ("fork", side))
        return steps[0][1]

    def test_up_to_deep_rows(self):
        told = (("wrong op", 0, 0, 1), ("wrong load", 1, 0), ("wrong op", 1, 1, 1))
        for deep in range(4):
            self.assertEqual(self.wrong(deep, self.ROWS), told[:deep])

    def test_each_changes_a_copy_for_the_next_ones(self):
        rows = (("op", 0, 0, 1, 1), ("op", 0, 0, 0, 0), ("op", 0, 0, 0, 1))
        self.assertEqual(self.wrong(3, rows), (("wrong op", 0, 1, 1), ("wrong op", 0, 0, 0), ("wrong op", 0, 0, 1)))
        frame = (2, 2, 0, (XOR,), 1)
        program = (("fork", 0, (), (("op", 0, 1, 1, 1),)), ("op", 0, 1, 1, 1))
        self.assertEqual(run_steps(frame, program, (0, 1)), (
            (("fork", 0), (("wrong op", 0, 1, 1),)), (("op", 0, 1, 1), ())))
        self.assertEqual(datum_behind(frame, program[:1], (0, 1)), (0, 1))

    def test_none_from_the_first_other_row_on(self):
        for other in (("fence",), ("store", 0, 0), ("fork", 0, (), ())):
            for ahead in range(4):
                rows = self.ROWS[:ahead] + (other,) + self.ROWS[ahead:]
                self.assertEqual(self.wrong(3, rows), self.wrong(3, self.ROWS)[:ahead])
        self.assertEqual(self.wrong(3, ()), ())

    def test_a_fence_ahead_in_the_side_that_is_not_gone(self):
        self.assertEqual(self.wrong(3, (("fence",),) + self.ROWS, (1, 0, 0, 0)), ())

    def test_loops_are_looked_at_unrolled(self):
        loop = (("loop", 0, (("fence",),)), ("loop", 2, (("op", 0, 1, 1, 0),)), ("fence",), ("load", 0, 0))
        self.assertEqual(self.wrong(3, loop), (("wrong op", 0, 1, 0), ("wrong op", 0, 1, 0)))
        self.assertEqual(self.wrong(1, loop), (("wrong op", 0, 1, 0),))

    def test_lesser_depths_have_the_first_ones(self):
        for frame in FRAMES:
            for program in some_programs(frame, 10, seed=11):
                for datum in data_of(frame)[::4]:
                    runs = [run_steps(frame[:4] + (deep,), program, datum) for deep in range(4)]
                    for less, more in itertools.pairwise(range(4)):
                        self.assertEqual([(event, wrong[:less]) for event, wrong in runs[more]], list(runs[less]))

    def test_one_program_and_then_another(self):
        for frame in FRAMES:
            programs = some_programs(frame, 12, seed=12)
            for one, other in zip(programs, programs[1:]):
                for datum in data_of(frame)[::4]:
                    middle = datum_behind(frame, one, datum)
                    self.assertEqual(
                        run_steps(frame, one + other, datum), run_steps(frame, one, datum) + run_steps(frame, other, middle))
                    self.assertEqual(datum_behind(frame, one + other, datum), datum_behind(frame, other, middle))


class TracesTest(unittest.TestCase):
    def test_a_trace_by_hand(self):
        program = (("op", 0, 0, 0, 1), ("fork", 0, (("store", 1, 0),), (("op", 1, 1, 0, 1), ("load", 0, 1))))
        datum = (1, 1, 1, 1)
        self.assertEqual(trace_of(CELLS, program, datum, [0, 1, 4, 6, 9]), (
            ((1, 1), (), None), ((), ((0,), (1,)), 0), ((1,), (), None)))
        self.assertEqual(trace_of(CELLS, program, datum, ()), (((), (), None), ((), ((), ()), 0), ((), (), None)))
        self.assertEqual(trace_of(CELLS, (("fence",),), datum, ALL), (((), (), None),))
        self.assertEqual(trace_of(CELLS, (), datum, ALL), ())

    def test_atoms_of_steps(self):
        none = ((),) * 10
        self.assertEqual(step_atoms((("op", 0, 1, 0), ())), ((1,), (0,)) + none[2:])
        self.assertEqual(step_atoms((("load", 1, 0), ())), none[:2] + ((1,), (0,)) + none[4:])
        self.assertEqual(step_atoms((("store", 0, 1), ())), none[:4] + ((0,), (1,)) + none[6:])
        self.assertEqual(step_atoms((("fence",), ())), none)
        wrong = (("wrong op", 1, 0, 1), ("wrong load", 1, 0), ("wrong op", 0, 1, 1))
        self.assertEqual(step_atoms((("fork", 1), wrong)), none[:6] + ((0, 1), (1, 1), (1,), (0,)))
        self.assertEqual(step_atoms(step=(("fork", 0), ())), none)

    def test_traces_and_atoms_as_told_slowly(self):
        lots = [(), (0,), (1, 6), (2, 4, 8), (3, 5, 7, 9), ALL]
        for frame in FRAMES:
            for program in some_programs(frame, 10, seed=2):
                for datum in data_of(frame)[::3]:
                    steps = run_steps(frame, program, datum)
                    for step in steps:
                        self.assertEqual(step_atoms(step), slow_atoms(step))
                    for lot in lots:
                        self.assertEqual(trace_of(frame, program, datum, list(lot)), slow_trace(steps, lot))

    def test_parts_of_one_trace(self):
        for frame in FRAMES:
            data = data_of(frame)[::2][::-1]
            for program in some_programs(frame, 8, seed=3):
                for lot in ((), (0, 6), ALL):
                    parts = traces_parts(frame, program, data, lot)
                    self.assertEqual(sorted(datum for part in parts for datum in part), sorted(data))
                    self.assertEqual(parts, tuple(sorted(tuple(sorted(part)) for part in parts)))
                    traces = [{trace_of(frame, program, datum, lot) for datum in part} for part in parts]
                    self.assertTrue(all(len(trace) == 1 for trace in traces))
                    self.assertEqual(len(set.union(*traces)), len(parts))
        self.assertEqual(traces_parts(FRAME, (), [], ()), ())
        self.assertEqual(traces_parts(FRAME, (), [(1, 0), (0, 1)], []), (((0, 1), (1, 0)),))

    def test_unlike_atoms_of_all_pairs(self):
        for frame in FRAMES:
            for program in some_programs(frame, 6, seed=4):
                data = data_of(frame)[::2]
                for one, other in itertools.product(data, data):
                    self.check_unlike(frame, program, one, other)

    def check_unlike(self, frame, program, one, other):
        atoms, parted = unlike_atoms(frame, program, one, other)
        runs = run_steps(frame, program, one), run_steps(frame, program, other)
        unlike, sides = set(), False
        for step, second in zip(*runs):
            if step[0][0] == "fork" and step[0] != second[0]:
                sides = True
                break
            unlike |= {atom for atom in ALL if slow_atoms(step)[atom] != slow_atoms(second)[atom]}
        self.assertEqual((atoms, parted), (tuple(sorted(unlike)), sides))
        for lot in [(atom,) for atom in ALL] + [(), ALL]:
            alike = slow_trace(runs[0], lot) == slow_trace(runs[1], lot)
            self.assertEqual(alike, not parted and not set(atoms) & set(lot))
        self.assertEqual(runs[0] == runs[1], not parted and not atoms)

    def test_the_fork_of_unlike_sides_is_left_out(self):
        program = (("op", 0, 1, 1, 1), ("fork", 0, (("op", 0, 1, 1, 1),), (("op", 0, 1, 1, 0),)))
        self.assertEqual(unlike_atoms(FRAME, program, (0, 0), (1, 0)), ((), True))
        self.assertEqual(unlike_atoms(FRAME, program, (0, 1), (1, 0)), ((0, 1), True))
        self.assertEqual(unlike_atoms(FRAME, program, (0, 1), (0, 1)), ((), False))


class WrongArgumentsTest(unittest.TestCase):
    DATUM, PROGRAM = (0, 1), (("fence",),)

    def test_any_values(self):
        good = (FRAME, self.PROGRAM, self.DATUM)
        for function in (run_steps, datum_behind):
            try_wrong(self, function, good, {1: InvalidProgram, 2: InvalidDatum})
            try_order(self, function, good, self.wrong({2: (None, (InvalidDatum, -1))}))
        try_wrong(self, trace_of, good + ((),), {1: InvalidProgram, 2: InvalidDatum, 3: InvalidLot})
        try_order(self, trace_of, good + ((),), self.wrong({
            2: ((0, 2), (InvalidDatum, -1)), 3: ([10], (InvalidLot, 0))}))
        data = good[:2] + ([self.DATUM], ())
        try_wrong(self, traces_parts, data, {1: InvalidProgram, 2: InvalidDatum, 3: InvalidLot})
        try_order(self, traces_parts, data, self.wrong({2: ([None], (InvalidDatum, 0)), 3: (None, (InvalidLot, -1))}))
        pair = good[:2] + (self.DATUM, self.DATUM)
        try_wrong(self, unlike_atoms, pair, {1: InvalidProgram, 2: InvalidDatum, 3: InvalidDatum})
        try_order(self, unlike_atoms, pair, self.wrong({
            2: ([0, 1], (InvalidDatum, 0)), 3: ((0, True), (InvalidDatum, 1))}))

    def wrong(self, more):
        return {0: ([], (InvalidFrame, -1)), 1: ([], (InvalidProgram, -1))} | more

    def test_wrong_lots(self):
        def told(lot):
            return outcome(trace_of, FRAME, self.PROGRAM, self.DATUM, lot)
        for value in (None, 0, "01", True):
            self.assertEqual(told(value), (InvalidLot, -1))
        for wrong in (10, -1, True, None, "1", HUGE, (0,), 0, 1):
            self.assertEqual(told([0, 1, wrong, None]), (InvalidLot, 2), wrong)
        self.assertEqual(told([3, 2, -1]), (InvalidLot, 1))
        self.assertEqual(told((0, 1, 2, 3, 4, 5, 6, 7, 8, 9))[0], "told")

    def test_wrong_data(self):
        def told(data):
            return outcome(traces_parts, FRAME, self.PROGRAM, data, [])
        for value in (None, 0, "01", True):
            self.assertEqual(told(value), (InvalidDatum, -1))
        for wrong in ((0, 2), [0, 1], (0, True), None, 0, (0,), (0, 0), (1, 1)):
            self.assertEqual(told([(0, 0), (1, 1), wrong, None]), (InvalidDatum, 2), wrong)

    def test_arguments_stay(self):
        data, lot = [(1, 1), (0, 0)], [0, 6]
        first = traces_parts(frame=FRAME, program=self.PROGRAM, data=data, lot=lot)
        self.assertEqual((data, lot), ([(1, 1), (0, 0)], [0, 6]))
        data.append((0, 1))
        self.assertEqual(first, traces_parts(FRAME, self.PROGRAM, ((0, 0), (1, 1)), (0, 6)))


if __name__ == "__main__":
    unittest.main()
