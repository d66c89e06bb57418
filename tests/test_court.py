"""[17], [18], [19]: flat rows, the court of promises, fewest steps."""

import itertools
import random
import unittest

from leastpromise.caches import cache_processor, least_recent
from leastpromise.court import court_holds, court_paper, fewest_steps, flat_program, flat_rows, is_kept
from leastpromise.errors import InvalidDatum, InvalidFrame, InvalidLot, InvalidProcessor, InvalidProgram
from leastpromise.events import events_many, frame_events, view_of
from leastpromise.processors import put_beside
from leastpromise.programs import unrolled
from leastpromise.runs import run_steps, trace_of
from tests.samples import (
    AND, HUGE, SUM3, XOR, data_of, is_tupled, kind_processor, outcome, quiet_processor, some_programs, try_judge,
    try_order, try_wrong, with_part)
from tests.slow import SlowCourt, slow_rows

SMALL = (2, 1, 0, (), 0)
COURTS = [
    SMALL, (2, 1, 0, (AND,), 1), (2, 2, 0, (XOR,), 1), (2, 2, 0, (AND, XOR), 0), (2, 1, 2, (AND,), 1), (2, 1, 2, (), 0),
    (2, 2, 2, (XOR,), 1), (2, 1, 2, (AND, XOR), 1), (3, 1, 0, (SUM3,), 1), (2, 2, 0, (XOR,), 2)]
LOTS = [(), (0,), (1,), (0, 1), (2,), (2, 4), (6,), (6, 7), (2, 3, 4, 5), (0, 1, 2, 3, 4, 5, 6, 8), tuple(range(10))]
UP = ((0,), (((1, 0), (1, 0), (2, 0)),))


def processors(frame, many=6, seed=0):
    draw = random.Random(f"{seed} {frame}")
    events = frame_events(frame)
    told = [kind_processor(draw, events, draw.randrange(1, 4)) for _ in range(many)]
    return told + [quiet_processor(draw, len(events), draw.randrange(1, 4)) for _ in range(many)]


def shows_broken(frame, processor, lot, told):
    program, one, other = told
    return trace_of(frame, program, one, lot) == trace_of(frame, program, other, lot) and (
        view_of(frame, processor, program, one) != view_of(frame, processor, program, other))


class FlatTest(unittest.TestCase):
    def test_by_hand(self):
        self.assertEqual(flat_rows(SMALL), (("fence",), ("fork", 0, (), ())))
        self.assertEqual(flat_rows((2, 1, 0, (AND,), 1)), (
            ("fence",), ("fork", 0, (), ()), ("fork", 0, (), (("op", 0, 0, 0, 0),)), ("fork", 0, (("op", 0, 0, 0, 0),), ()),
            ("op", 0, 0, 0, 0)))
        self.assertEqual(flat_rows((2, 1, 2, (), 1)), (
            ("fence",), ("fork", 0, (), ()), ("fork", 0, (), (("load", 0, 0),)), ("fork", 0, (("load", 0, 0),), ()),
            ("load", 0, 0), ("store", 0, 0)))

    def test_all_ascending(self):
        for frame in COURTS + [(2, 2, 2, (AND,), 2), (2, 3, 0, (XOR,), 1), (2, 1, 0, (AND, XOR), 3)]:
            self.assertEqual(list(flat_rows(frame)), slow_rows(frame))

    def test_the_steps_that_the_datum_has(self):
        for frame in COURTS + [(2, 2, 2, (AND,), 3), (3, 2, 0, (SUM3,), 2)]:
            flat = set(slow_rows(frame)) if frame[4] < 3 else None
            for program in some_programs(frame, 15, seed=17, depth=3):
                for datum in data_of(frame)[::2]:
                    rows = flat_program(frame, program, datum)
                    steps = run_steps(frame, program, datum)
                    self.assertEqual(len(rows), len(steps))
                    self.assertEqual(run_steps(frame, rows, datum), steps)
                    for row, step in zip(rows, steps):
                        self.assertEqual(row[0], step[0][0])
                        if row[0] == "fork":
                            self.assertEqual(row[2 + step[0][1]], ())
                            self.assertEqual(len(row[3 - step[0][1]]), len(step[1]))
                    self.assertTrue(flat is None or set(rows) <= flat)

    def test_like_sides_have_one_flat_program(self):
        frame = (2, 2, 2, (AND,), 1)
        draw = random.Random(17)
        processor = kind_processor(draw, frame_events(frame), 3)
        for program in some_programs(frame, 25, seed=18):
            rows = {datum: flat_program(frame, program, datum) for datum in data_of(frame)}
            sides = {
                datum: [step[0] for step in run_steps(frame, program, datum) if step[0][0] == "fork"] for datum in rows}
            for one, other in itertools.combinations(rows, 2):
                if sides[one] == sides[other]:
                    self.assertEqual(rows[one], rows[other])
            for datum in rows:
                self.assertEqual(view_of(frame, processor, program, datum), view_of(frame, processor, rows[datum], datum))
                self.assertEqual(
                    trace_of(frame, program, datum, (0, 6)), trace_of(frame, rows[datum], datum, (0, 6)))

    def test_wrong_rows_are_cut(self):
        frame, op = (2, 1, 2, (AND,), 1), ("op", 0, 0, 0, 0)
        program = (("fork", 0, (), (op, ("load", 0, 0))), ("fork", 0, (op,), (("store", 0, 0), op)))
        self.assertEqual(
            flat_program(frame, program, (0, 0, 0)),
            (("fork", 0, (), (op,)), ("fork", 0, (), ()), op))
        loops = (("fork", 0, (), (("loop", 0, (("fence",),)), ("loop", 2, (op,)))),)
        self.assertEqual(flat_program(frame[:4] + (3,), loops, (0, 0, 0)), (("fork", 0, (), (op, op)),))
        self.assertEqual(flat_program(frame, (("loop", 0, (op,)),), (0, 0, 0)), ())
        self.assertEqual(flat_program(frame, (("loop", 3, (op,)),), (0, 0, 0)), (op, op, op))

    def test_any_values(self):
        try_wrong(self, flat_rows, (SMALL,), {0: InvalidFrame})
        good = (SMALL, (), (0,))
        try_wrong(self, flat_program, good, {0: InvalidFrame, 1: InvalidProgram, 2: InvalidDatum})
        try_order(self, flat_program, good, {
            0: (None, (InvalidFrame, -1)), 1: ((0,), (InvalidProgram, 0)), 2: ([0], (InvalidDatum, -1))})


class CourtTest(unittest.TestCase):
    def test_the_printed_example(self):
        self.assertEqual(court_paper(SMALL, UP, ()), ("kept", ((((0,), 0), ((1,), 0)),)))
        self.assertIs(is_kept(SMALL, UP, ()), True)
        self.assertIsNone(fewest_steps(SMALL, UP, ()))

    def test_against_all_flat_rows(self):
        words = set()
        for frame in COURTS:
            draw = random.Random(f"18 {frame}")
            for processor in processors(frame, 5 if frame[1] + frame[2] < 4 and frame[4] < 2 else 2):
                for lot in draw.sample(LOTS, 3):
                    word = self.check(frame, processor, lot)
                    words.add((word, frame))
        self.assertEqual({word for word, frame in words}, {"kept", "broken"})
        self.assertGreater(len(words), 15)

    def check(self, frame, processor, lot):
        paper = court_paper(frame, processor, lot)
        told = SlowCourt(frame, processor, lot).least()
        self.assertTrue(is_tupled(paper))
        self.assertEqual(paper[0], told[0], (frame, processor, lot))
        self.assertIs(is_kept(frame, processor, lot), told[0] == "kept")
        self.assertIs(court_holds(frame, processor, lot, paper), True)
        if told[0] == "kept":
            self.assertEqual(paper, told)
            self.assertIsNone(fewest_steps(frame, processor, lot))
        else:
            self.assertEqual(len(paper), 4)
            self.assertTrue(shows_broken(frame, processor, lot, paper[1:]))
            self.assertEqual(len(run_steps(frame, unrolled(frame, paper[1]), paper[2])), told[1])
            self.assertEqual(fewest_steps(frame, processor, lot), told[1])
            pairs = len(data_of(frame)) * len(processor[0])
            self.assertLessEqual(told[1], pairs * (pairs - 1) // 2)
        return paper[0]

    def test_kept_promises_are_kept_by_programs(self):
        for frame in ((2, 2, 0, (XOR,), 1), (2, 1, 2, (AND,), 1), (2, 2, 2, (XOR,), 1)):
            for processor in processors(frame, 4, seed=1):
                for lot in LOTS[::2]:
                    if is_kept(frame, processor, lot):
                        for program in some_programs(frame, 6, seed=lot):
                            for one, other in itertools.combinations(data_of(frame)[::2], 2):
                                self.assertFalse(shows_broken(frame, processor, lot, (program, one, other)))

    def test_more_atoms_keep_and_all_are_kept(self):
        for frame in COURTS:
            for processor in processors(frame, 3, seed=2):
                self.assertTrue(is_kept(frame, processor, tuple(range(10))))
                self.assertTrue(is_kept(frame, processor, list(range(10))))
                kept = [lot for lot in LOTS if is_kept(frame, processor, lot)]
                for lot in LOTS:
                    if any(set(less) <= set(lot) for less in kept):
                        self.assertIn(lot, kept)

    def test_states_count_steps(self):
        # Just from the third state on an operation's first number is told.
        frame = (2, 1, 0, (AND,), 0)
        quiet = tuple((1, 1) for _ in range(7))
        rows = (quiet, tuple((1, 2) for _ in range(7)), ((1, 2), (1, 2), (2, 2), (2, 2)) + ((1, 2),) * 3)
        processor = ((0, 0, 0), rows)
        self.assertEqual(fewest_steps(frame, processor, ()), 3)
        self.assertEqual(fewest_steps(frame, processor, (1,)), None)
        self.assertEqual(len(court_paper(frame, processor, ())[1]), 3)
        # The first state is never come to again, and a further one never is.
        more = ((0, 0, 0, 3), rows + (((7, 3),) * 7,))
        self.assertEqual(court_paper(frame, more, (0,)), court_paper(frame, processor, (0,)))

    def test_guesses_that_are_unlike(self):
        frame = (2, 1, 2, (AND,), 1)
        many = events_many(frame)
        first = frame_events(frame).index(("load", 0, 0))
        row = [(1, 0)] * many
        row[first] = (1, 1)
        # Behind a load of a 0 from address 0 the other side is read, which takes its time.
        processor = ((0, 3), (tuple(row), tuple((1, 1) for _ in range(many))))
        self.check(frame, processor, ())
        self.assertEqual(fewest_steps(frame, processor, ()), 2)
        # By its address alone two data that load unlike values go unlike sides, as there is one register.
        self.assertEqual(fewest_steps(frame, processor, (3,)), 2)
        self.assertEqual(fewest_steps(frame, processor, (2,)), None)
        self.check(frame, processor, (2,))
        two = (2, 2) + frame[2:]
        self.assertEqual(fewest_steps(two, processor, (2,)), 2)
        self.assertEqual(fewest_steps(two, processor, (2, 3)), None)

    def test_wrong_ways_whose_beats_are_made_good(self):
        # A wrong operation of two ones takes a beat more, and leads to a state whose forks take one less.
        frame = (2, 2, 0, (AND,), 1)
        events = frame_events(frame)
        row = [(2, 0)] * len(events)
        row[events.index(("wrong op", 0, 1, 1))] = (3, 1)
        short = [(2, 0)] * len(events)
        for side in (0, 1):
            short[events.index(("fork", side))] = (1, 0)
        processor = ((3, 3), (tuple(row), tuple(short)))
        self.assertTrue(is_kept(frame, processor, ()))
        self.check(frame, processor, ())
        late = [(1, 1)] * len(events)
        self.check(frame, ((3, 3), (tuple(row), tuple(late))), ())
        self.check(frame[:4] + (2,), processor, ())
        # A further wrong event takes one less from there, and leads back.
        back = [(1, 0) if event[0].startswith("wrong") or event[0] == "fork" else (2, 0) for event in events]
        processor = ((3, 3), (tuple(row), tuple(back)))
        self.assertTrue(is_kept(frame[:4] + (2,), processor, ()))
        self.check(frame[:4] + (2,), processor, ())

    def test_wrong_ways_of_two_rows(self):
        draw = random.Random(20)
        words = []
        for frame in ((2, 2, 0, (XOR,), 2), (2, 1, 2, (AND,), 2), (2, 2, 0, (AND,), 2)):
            events = frame_events(frame)
            for _ in range(9):
                guesses, rows = kind_processor(draw, events, 2, 0.3)
                rows = tuple(tuple(
                    told if event[0].startswith("wrong") else (1, 0) for event, told in zip(events, row)) for row in rows)
                words.append(self.check(frame, ((3, 3), rows), draw.choice(((), (), (6,), (7,), (6, 8), (8,)))))
        self.assertGreater(min(words.count("kept"), words.count("broken")), 4)

    def test_data_that_wrong_rows_changed(self):
        # The second wrong event of a way reads what the first one left: just there data may be unlike, or alike.
        events = frame_events((2, 2, 0, (XOR,), 2))
        first = [(1, 1) if event == ("wrong op", 0, 1, 1) else (1, 0) for event in events]
        second = [(2, 0) if event[:3] == ("wrong op", 0, 1) else (1, 0) for event in events]
        for rows in ((first, second), (second, first)):
            for lot in ((), (6,), (7,), (6, 7)):
                self.check((2, 2, 0, (XOR,), 2), ((3, 3), tuple(map(tuple, rows))), lot)

    def test_caches_of_seven_states(self):
        frame = (2, 2, 2, (AND,), 1)
        cache = cache_processor(frame, least_recent(2), 3)
        self.assertEqual(len(cache[0]), 7)
        for lot, kept in (((2, 4, 8), True), ((2, 4), False), ((2, 8), False), ((4, 8), False), ((2, 4, 8, 9), True)):
            self.assertIs(is_kept(frame, cache, lot), kept)
            paper = court_paper(frame, cache, lot)
            self.assertEqual(paper[0], "kept" if kept else "broken")
            self.assertIs(court_holds(frame, cache, lot, paper), True)

    def test_told_processors_of_more_states(self):
        draw = random.Random(19)
        frame = (2, 1, 0, (AND,), 1)
        one, other = [kind_processor(draw, frame_events(frame), 3) for _ in range(2)]
        self.check(frame, put_beside(frame, one, other), (0, 6))


class CourtJudgeTest(unittest.TestCase):
    def test_any_closed_lot(self):
        frame = (2, 1, 2, (AND,), 1)
        for processor in processors(frame, 3, seed=3):
            for lot in ((0, 1, 2, 3, 4, 5, 6), (0, 1, 2, 4, 6, 7, 8, 9), (1, 3, 5)):
                court = SlowCourt(frame, processor, lot)
                told = court.least()
                if told[0] != "kept":
                    continue
                states = range(len(processor[0]))
                standings = sorted(itertools.product(data_of(frame), states))
                every = tuple(itertools.combinations(standings, 2))
                self.assertIs(court_holds(frame, processor, lot, ("kept", every)), court.is_closed(every))
                draw = random.Random(len(every))
                for _ in range(8):
                    some = set(told[1]) | set(draw.sample(every, 2))
                    pairs = tuple(sorted(some))
                    self.assertIs(court_holds(frame, processor, lot, ("kept", pairs)), court.is_closed(pairs))
                for pair in told[1]:
                    less = tuple(own for own in told[1] if own != pair)
                    self.assertIs(court_holds(frame, processor, lot, ("kept", less)), False)

    def test_greater_closed_lots(self):
        # The second state is never come to: a pair of it may be there, if it leads nowhere else.
        row = ((1, 0), (1, 0), (2, 0))
        still, loud = ((1, 1), (1, 1), (1, 1)), ((1, 1), (2, 1), (3, 1))
        least = ((((0,), 0), ((1,), 0)),)
        own = (((0,), 1), ((1,), 1))
        mixed = (((0,), 0), ((1,), 1))
        for second, expected in ((still, True), (loud, True)):
            processor = ((0, 0), (row, second))
            self.assertIs(court_holds(SMALL, processor, (), ("kept", least)), True)
            self.assertIs(court_holds(SMALL, processor, (), ("kept", least + (own,))), expected)
            self.assertIs(court_holds(SMALL, processor, (), ("kept", tuple(sorted(least + (mixed,))))), True)
            self.assertIs(court_holds(SMALL, processor, (), ("kept", (own,))), False)
            self.assertIs(court_holds(SMALL, processor, (), ("kept", (own,) + least)), False)
            # No pair is of one standing twice, or has the greater one first.
            for wrong in (((0,), 0), ((0,), 0)), (((1,), 1), ((1,), 1)), (((1,), 0), ((0,), 0)), (((1,), 1), ((0,), 1)):
                self.assertIs(court_holds(SMALL, processor, (), ("kept", tuple(sorted(least + (wrong,))))), False)

    def test_changed_kept_papers(self):
        frame = (2, 1, 0, (AND,), 1)
        processor = ((3, 0), (((1, 1),) * 11, ((1, 0),) * 9 + ((2, 0), (2, 0))))
        lot = ()
        paper = court_paper(frame, processor, lot)
        self.assertEqual(paper[0], "kept")
        court = SlowCourt(frame, processor, lot)
        standings = list(itertools.product(data_of(frame), (0, 1)))
        right = list(itertools.combinations(sorted(standings), 2))

        def expected(value):
            if not isinstance(value, tuple) or len(value) != 2 or value[0] != "kept" or not isinstance(value[1], tuple):
                return False
            if not all(pair in right for pair in value[1]) or list(value[1]) != sorted(set(value[1])):
                return False
            return court.is_closed(value[1])

        try_judge(self, lambda value: court_holds(frame, processor, lot, value), paper, expected)

    def test_broken_papers(self):
        frame = (2, 2, 0, (XOR,), 1)
        events = frame_events(frame)
        ones = tuple((2, 0) if event[:3] == ("op", 0, 1) else (1, 0) for event in events)
        processor, lot = ((0,), (ones,)), (1, 6)
        paper = court_paper(frame, processor, lot)
        self.assertEqual((paper[0], len(paper[1])), ("broken", 1))
        judge = lambda value: court_holds(frame, processor, lot, value)
        try_judge(self, judge, paper)
        op = ("op", 0, 0, 0, 1)
        for program, one, other, expected in (
                ((op,), (0, 0), (1, 0), True), ((op,), (1, 0), (0, 0), True), ((op,), (0, 0), (0, 1), False),
                ((op,), (0, 0), (0, 0), False), ((("fence",), ("loop", 2, (op,))), (0, 0), (1, 0), True),
                ((("loop", 0, (op,)),), (0, 0), (1, 0), False), ((("fork", 1, (op, op), ()),), (0, 0), (1, 0), True),
                ((("fork", 0, (op, op), ()),), (0, 0), (1, 0), False), ((), (0, 0), (1, 0), False),
                ((op,) * 60, (0, 0), (1, 0), True), ((("fork", 1, (), (op,)), op), (0, 0), (1, 0), False),
                ((("fork", 1, (), (("op", 0, 0, 1, 0),)), op), (0, 0), (1, 0), True)):
            self.assertIs(judge(("broken", program, one, other)), expected, (program, one, other))
        for value in (
                ("broken", (op,), (0, 0)), ("broken", (op,), (0, 0), (1, 0), ()), ("kept", (op,), (0, 0), (1, 0)),
                ["broken", (op,), (0, 0), (1, 0)], ("broken", [op], (0, 0), (1, 0)), ("broken", (op,), [0, 0], (1, 0)),
                ("broken", (op,), (0, 0), (1, 2)), ("broken", (op,), (0, 0), (True, 0)), ("broken", (None,), (0, 0), (1, 0)),
                ("broken", (op,), (0, 0, 0), (1, 0)), ("broken", (("op", 0, 0, 0, 2),), (0, 0), (1, 0))):
            self.assertIs(judge(value), False, value)
        self.assertIs(court_holds(frame, processor, (0,), paper), False)
        self.assertIs(court_holds(frame, processor, [1], paper), True)

    def test_each_word_where_it_is_due(self):
        frame = (2, 1, 2, (AND,), 1)
        for processor in processors(frame, 3, seed=4):
            for lot in LOTS:
                for other in LOTS:
                    paper = court_paper(frame, processor, other)
                    if paper[0] == "kept":
                        # A lot closed by fewer atoms is closed by more.
                        if set(other) <= set(lot):
                            self.assertTrue(court_holds(frame, processor, lot, paper))
                        if court_holds(frame, processor, lot, paper):
                            self.assertTrue(is_kept(frame, processor, lot))
                    elif set(lot) <= set(other):
                        self.assertTrue(court_holds(frame, processor, lot, paper))

    def test_any_values(self):
        good = (SMALL, UP, ())
        errors = {0: InvalidFrame, 1: InvalidProcessor, 2: InvalidLot}
        wrong = {
            0: (None, (InvalidFrame, -1)), 1: (((4,), (0,)), (InvalidProcessor, 0)), 2: ([3, 3], (InvalidLot, 1))}
        for function in (court_paper, is_kept, fewest_steps):
            try_wrong(self, function, good, {1: InvalidProcessor, 2: InvalidLot})
            try_order(self, function, good, wrong)
            self.assertEqual(outcome(function, None, None, None), (InvalidFrame, -1))
        try_wrong(self, court_holds, good + (None,), {1: errors[1], 2: errors[2]})
        try_order(self, court_holds, good + (None,), wrong)
        for value in (10, -1, True, None, "0", HUGE, (0,), 3):
            self.assertEqual(outcome(court_paper, SMALL, UP, [3, value]), (InvalidLot, 1), value)
        for value in (None, 0, "0", True):
            self.assertEqual(outcome(is_kept, SMALL, UP, value), (InvalidLot, -1), value)
        self.assertEqual(outcome(is_kept, SMALL, with_part(UP, 0, (True,)), ()), (InvalidProcessor, 0))
        self.assertEqual(court_paper(frame=SMALL, processor=UP, lot=[0, 9]), court_paper(SMALL, UP, (0, 9)))


if __name__ == "__main__":
    unittest.main()
