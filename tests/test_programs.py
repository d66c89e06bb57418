"""[9], [10]: frames, data, programs."""

import unittest

from leastpromise.errors import InvalidDatum, InvalidFrame, InvalidProgram
from leastpromise.programs import all_data, need_datum, need_frame, need_program, unrolled
from leastpromise.runs import datum_behind, run_steps
from tests.samples import ANY, AND, FRAMES, HUGE, SUM3, XOR, data_of, nested, outcome, some_programs, try_order, try_wrong

FRAME = (2, 2, 2, (XOR, AND), 2)
DRY = (2, 2, 0, (XOR,), 2)


class FramesTest(unittest.TestCase):
    def test_right_frames_are_told_as_they_are(self):
        for frame in FRAMES + [(3, 4, 3, (SUM3,) * 4, 3), (2, 4, 2, (XOR,) * 4, 3), (2, 1, 0, (), 0)]:
            self.assertIs(need_frame(frame), frame)

    def test_the_first_wrong_part(self):
        good = (2, 2, 0, (XOR,), 1)
        wrong = {
            0: (1, 4, True, None, "2", (2,), HUGE, 0, -2), 1: (0, 5, -1, True, None, "1", HUGE, (1,)),
            2: (1, 3, -2, True, False, None, "0", HUGE, ()),
            3: ([], None, 0, [XOR], (list(XOR),), ((0, 1, 1),), ((0, 1, 1, 2),), ((0, 1, 1, True),), (XOR,) * 5,
                (SUM3,), ((),), "", True, ((0, 1, 1, HUGE),), ((0, 1, 1, -1),), ((XOR,),)),
            4: (4, -1, True, False, None, "0", HUGE, ())}
        for at, values in wrong.items():
            for value in values:
                frame = good[:at] + (value,) + good[at + 1:]
                self.assertEqual(outcome(need_frame, frame), (InvalidFrame, at), frame)
                for later in range(at + 1, 5):
                    worse = frame[:later] + (None,) + frame[later + 1:]
                    self.assertEqual(outcome(need_frame, worse), (InvalidFrame, at), worse)

    def test_cells_are_none_or_as_many_as_values(self):
        self.assertEqual(outcome(need_frame, (3, 1, 2, (), 0)), (InvalidFrame, 2))
        self.assertEqual(outcome(need_frame, (2, 1, 3, (), 0)), (InvalidFrame, 2))
        self.assertEqual(need_frame((3, 1, 3, (), 0))[2], 3)

    def test_what_is_no_five(self):
        for value in ANY:
            if not (isinstance(value, tuple) and len(value) == 5):
                self.assertEqual(outcome(need_frame, value), (InvalidFrame, -1), value)
        self.assertEqual(outcome(need_frame, list(DRY)), (InvalidFrame, -1))
        self.assertEqual(outcome(need_frame, DRY + (0,)), (InvalidFrame, -1))

    def test_data_are_all_ascending(self):
        for frame in FRAMES + [(3, 4, 3, (), 0)]:
            self.assertEqual(list(all_data(frame)), data_of(frame))
        self.assertEqual(all_data(frame=(2, 1, 0, (), 0)), ((0,), (1,)))

    def test_a_datum(self):
        for frame in FRAMES:
            for datum in data_of(frame):
                self.assertIs(need_datum(frame, datum), datum)
        for value in (None, 0, "01", [0, 1], (0,), (0, 1, 0), (0, 2), (0, -1), (0, True), (0, None), (0, "1"), (0, HUGE),
                      (0, (1,)), ()):
            self.assertEqual(outcome(need_datum, DRY, value), (InvalidDatum, -1), value)


class ProgramsTest(unittest.TestCase):
    def test_right_programs_are_told_as_they_are(self):
        rows = (
            ("op", 1, 0, 1, 1), ("load", 0, 1), ("store", 1, 0), ("fence",), ("fork", 1, (), (("fence",),)),
            ("loop", 4, (("loop", 0, ()), ("fork", 0, (("loop", 2, (("load", 1, 1),)),), ()))))
        self.assertIs(need_program(FRAME, rows), rows)
        self.assertEqual(need_program(FRAME, ()), ())
        for frame in FRAMES:
            for program in some_programs(frame, 20):
                self.assertIs(need_program(frame, program), program)

    def test_the_first_wrong_row(self):
        wrong = [
            None, 0, "fence", (), [], ["fence"], ("fence", 0), ("Fence",), (True,), (("fence",),), ("op",),
            ("op", 2, 0, 0, 0), ("op", -1, 0, 0, 0), ("op", True, 0, 0, 0), ("op", 0, 2, 0, 0), ("op", 0, 0, 2, 0),
            ("op", 0, 0, 0, 2), ("op", 0, 0, 0), ("op", 0, 0, 0, 0, 0), ("op", 0, 0, 0, HUGE), ["op", 0, 0, 0, 0],
            ("op", 0, None, 0, 0), ("op", 0, 0, "0", 0), ("op", 0, 0, 0, False), ("load", 0), ("load", 0, 2),
            ("load", True, 0), ("load", 0, 0, 0), ("store", 2, 0), ("store", 0, -1), ("store", 0, [0]), ("fork", 2, (), ()),
            ("fork", True, (), ()), ("fork", 0, ()), ("fork", 0, (), []), ("fork", 0, [], ()), ("fork", 0, (), None), ("fork", 0, (("fence",), ("op", 0, 0, 0, 2)), ()),
            ("fork", 0, (), ("fence",)), ("fork", 0, (), (), ()), ("loop", 5, ()), ("loop", -1, ()), ("loop", True, ()),
            ("loop", HUGE, ()), ("loop", None, ()), ("loop", 1, []), ("loop", 1), ("loop", 1, (), ()),
            ("loop", 1, (("fork", 0, (), (("loop", 5, ()),)),)), ("wrong op", 0, 0, 0), nested(11), PROMISE]
        for row in wrong:
            self.assertEqual(outcome(need_program, FRAME, (("fence",), row, None)), (InvalidProgram, 1), row)

    def test_no_tuple(self):
        for value in ANY:
            if not isinstance(value, tuple):
                self.assertEqual(outcome(need_program, FRAME, value), (InvalidProgram, -1), value)

    def test_loads_and_stores_are_of_frames_with_cells(self):
        for row in (("load", 0, 0), ("store", 0, 0)):
            self.assertEqual(need_program(FRAME, (row,)), (row,))
            self.assertEqual(outcome(need_program, DRY, (row,)), (InvalidProgram, 0))
        self.assertEqual(outcome(need_program, (2, 1, 0, (), 0), (("op", 0, 0, 0, 0),)), (InvalidProgram, 0))
        # Registers are named, of which there may be fewer than cells, or more.
        for registers in (1, 3, 4):
            frame, last = (2, registers, 2, (), 0), registers - 1
            for word in ("load", "store"):
                self.assertEqual(outcome(need_program, frame, ((word, last, last),))[0], "told")
                for row in ((word, registers, 0), (word, 0, registers)):
                    self.assertEqual(outcome(need_program, frame, (row,)), (InvalidProgram, 0))

    def test_loops_are_unrolled_also_within_rows(self):
        fence, load = ("fence",), ("load", 0, 1)
        program = (("loop", 2, (fence, ("fork", 0, (("loop", 3, (load,)),), (("loop", 0, (fence,)),)))), load)
        fork = ("fork", 0, (load, load, load), ())
        self.assertEqual(unrolled(FRAME, program), (fence, fork, fence, fork, load))
        self.assertEqual(unrolled(FRAME, (("loop", 4, (("loop", 4, (("loop", 4, (fence,)),)),)),)), (fence,) * 64)
        self.assertEqual(unrolled(frame=FRAME, program=()), ())

    def test_unrolled_programs_run_as_the_program(self):
        for frame in FRAMES:
            for program in some_programs(frame, 12):
                flat = unrolled(frame, program)
                self.assertNotIn("loop", str(flat))
                self.assertEqual(unrolled(frame, flat), flat)
                for datum in data_of(frame)[::5]:
                    self.assertEqual(run_steps(frame, flat, datum), run_steps(frame, program, datum))
                    self.assertEqual(datum_behind(frame, flat, datum), datum_behind(frame, program, datum))

    def test_any_values(self):
        try_wrong(self, need_frame, (DRY,), {0: InvalidFrame})
        try_wrong(self, all_data, (DRY,), {0: InvalidFrame})
        try_wrong(self, need_datum, (DRY, (0, 1)), {1: InvalidDatum})
        try_wrong(self, need_program, (DRY, ()), {0: InvalidFrame, 1: InvalidProgram})
        try_wrong(self, unrolled, (DRY, ()), {0: InvalidFrame, 1: InvalidProgram})
        frame = (DRY[:4] + (4,), (InvalidFrame, 4))
        try_order(self, need_datum, (DRY, (0, 1)), {0: frame, 1: (None, (InvalidDatum, -1))})
        for function in (need_program, unrolled):
            try_order(self, function, (DRY, ()), {0: frame, 1: ([], (InvalidProgram, -1))})


PROMISE = InvalidFrame(0)

if __name__ == "__main__":
    unittest.main()
