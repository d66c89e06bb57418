"""[14], [15], [16]: alike states, least processors, two at once, one that tells two data apart."""

import itertools
import random
import unittest

from leastpromise.errors import InvalidDatum, InvalidFrame, InvalidIndex, InvalidProcessor, InvalidProgram, Refused
from leastpromise.events import events_many, need_processor, read_events, view_from, view_of
from leastpromise.processors import alike_parts, least_processor, parting_row, put_beside, telling_processor
from leastpromise.programs import unrolled
from leastpromise.runs import datum_behind, run_steps
from tests.samples import (
    AND, ANY, FRAMES, HUGE, SUM3, XOR, data_of, is_tupled, outcome, some_processor, some_programs, try_order, try_wrong)

SMALL = (2, 1, 0, (), 0)
SLOW = ((0, 0, 0), (((1, 1), (1, 0), (2, 2)), ((1, 1), (1, 0), (3, 2)), ((1, 1), (1, 0), (2, 2))))


def poor_processor(draw, many_events, states):
    """A processor of which many states are alike: it copies a smaller one's, each event to some copy."""
    kinds = draw.randrange(1, 4)
    guesses, rows = some_processor(draw, many_events, kinds)
    if draw.random() < 0.4:
        rows = tuple(tuple((1, later) for _, later in row) for row in rows)
        guesses = (guesses[0],) * kinds
    owners = [0] + [draw.randrange(kinds) for _ in range(states - 1)]
    copies = {kind: [state for state, owner in enumerate(owners) if owner == kind] or [0] for kind in range(kinds)}
    copied = []
    for owner in owners:
        copied.append(tuple((beats, draw.choice(copies[later])) for beats, later in rows[owner]))
    return tuple(guesses[owner] for owner in owners), tuple(copied)


def slow_alike(processor, one, other):
    """Whether two states are alike, by going through all pairs come to."""
    guesses, steps = processor
    known, waiting = {(one, other)}, [(one, other)]
    for near, far in waiting:
        if guesses[near] != guesses[far]:
            return False
        for (beats, later), (more, last) in zip(steps[near], steps[far]):
            if beats != more:
                return False
            if (later, last) not in known:
                known.add((later, last))
                waiting.append((later, last))
    return True


def guess_behind(frame, processor, state, row):
    return processor[0][read_events(frame, processor, state, row)[1]]


def parts_at(frame, processor, one, other, row):
    """Whether the last event's beats are unlike, or the guesses behind."""
    if guess_behind(frame, processor, one, row) != guess_behind(frame, processor, other, row):
        return True
    views = [read_events(frame, processor, state, row)[0] for state in (one, other)]
    return row != () and views[0][-1] != views[1][-1]


def some(many=40, states=6, seed=0):
    draw = random.Random(seed)
    for _ in range(many):
        frame = draw.choice([SMALL, (2, 1, 0, (AND,), 0), (2, 1, 0, (XOR,), 1), (2, 1, 2, (), 0)])
        yield frame, poor_processor(draw, events_many(frame), draw.randrange(1, states + 1))


class AlikeTest(unittest.TestCase):
    def test_the_printed_example(self):
        self.assertEqual((parting_row(SMALL, SLOW, 0, 1), parting_row(SMALL, SLOW, 0, 2)), ((2,), None))
        self.assertEqual(
            least_processor(SMALL, SLOW), ((0, 0), (((1, 1), (1, 0), (2, 0)), ((1, 1), (1, 0), (3, 0)))))
        self.assertEqual(alike_parts(SMALL, SLOW), ((0, 2), (1,)))

    def test_parts(self):
        for frame, processor in some():
            parts = alike_parts(frame, processor)
            self.assertTrue(is_tupled(parts))
            self.assertEqual(sorted(state for part in parts for state in part), list(range(len(processor[0]))))
            self.assertEqual(list(parts), sorted(tuple(sorted(part)) for part in parts))
            owner = {state: part for part in parts for state in part}
            for one, other in itertools.product(owner, owner):
                self.assertEqual(owner[one] == owner[other], slow_alike(processor, one, other))

    def test_guesses_part(self):
        still = ((1, 0),) * 3
        self.assertEqual(alike_parts(SMALL, ((0, 1), (still, still))), ((0,), (1,)))
        self.assertEqual(parting_row(SMALL, ((0, 1), (still, still)), 0, 1), ())
        # The guess behind tells a fence from a fence, though all beats are alike.
        later = (((1, 0), (1, 0), (1, 0)), ((1, 2), (1, 0), (1, 0)), ((1, 0), (1, 0), (1, 0)))
        self.assertEqual(parting_row(SMALL, ((0, 0, 3), later), 0, 1), (0,))
        self.assertEqual(alike_parts(SMALL, ((0, 0, 0), later)), ((0, 1, 2),))

    def test_the_first_of_the_shortest_rows(self):
        for frame, processor in some(25, 4, seed=1):
            numbers, states = range(events_many(frame)), range(len(processor[0]))
            for one, other in itertools.product(states, states):
                row = parting_row(frame, processor, one, other)
                self.assertEqual(row is None, slow_alike(processor, one, other))
                if row is None:
                    continue
                self.assertLess(len(row), len(processor[0]))
                self.assertTrue(parts_at(frame, processor, one, other, row))
                for many in range(min(len(row), 2) + 1):
                    for less in itertools.product(numbers, repeat=many):
                        if many < len(row) or less < row:
                            self.assertFalse(parts_at(frame, processor, one, other, less), (row, less))

    def test_long_rows(self):
        # State by state a fence leads on; the last one alone takes longer for it.
        states = 12
        rows = [((1, min(state + 1, states - 1)), (1, state), (1, state)) for state in range(states - 1)]
        processor = ((0,) * states, tuple(rows) + (((2, states - 1), (1, states - 1), (1, states - 1)),))
        self.assertEqual(parting_row(SMALL, processor, 0, 11), (0,))
        self.assertEqual(parting_row(SMALL, processor, 0, 1), (0,) * 11)
        self.assertEqual(alike_parts(SMALL, processor), tuple((state,) for state in range(states)))
        self.assertEqual(least_processor(SMALL, processor), processor)

    def test_like_states_have_like_views(self):
        for frame, processor in some(12, 6, seed=2):
            for part in alike_parts(frame, processor):
                for program in some_programs(frame, 5, seed=part):
                    for datum in data_of(frame):
                        views = {view_from(frame, processor, state, program, datum)[0] for state in part}
                        self.assertEqual(len(views), 1)

    def test_views_of_one_program_and_then_another(self):
        for frame, processor in some(12, 4, seed=3):
            one, other = some_programs(frame, 2, seed=4)
            for datum in data_of(frame):
                view, state = view_from(frame, processor, 0, one, datum)
                more = view_from(frame, processor, state, other, datum_behind(frame, one, datum))[0]
                self.assertEqual(view_of(frame, processor, one + other, datum), view + more)

    def test_any_values(self):
        good = (SMALL, SLOW)
        wrong = {0: (None, (InvalidFrame, -1)), 1: (((4,), (0,)), (InvalidProcessor, 0))}
        for function in (alike_parts, least_processor):
            try_wrong(self, function, good, {1: InvalidProcessor})
            try_order(self, function, good, wrong)
        rows = good + (0, 0)
        try_wrong(self, parting_row, rows, {1: InvalidProcessor, 2: InvalidIndex, 3: InvalidIndex})
        try_order(self, parting_row, rows, wrong | {2: (3, (InvalidIndex, -1)), 3: (None, (InvalidIndex, -1))})
        for value in ANY:
            if value not in (0, 1, 2) or isinstance(value, bool):
                self.assertEqual(outcome(parting_row, SMALL, SLOW, value, 0), (InvalidIndex, -1), value)
                self.assertEqual(outcome(parting_row, SMALL, SLOW, 0, value), (InvalidIndex, -1), value)


class LeastTest(unittest.TestCase):
    def test_like_guesses_and_beats_along_each_row(self):
        draw = random.Random(15)
        for frame, processor in some(seed=5):
            least = least_processor(frame, processor)
            need_processor(frame, least)
            self.assertEqual(least_processor(frame, least), least)
            self.assertEqual(alike_parts(frame, least), tuple((state,) for state in range(len(least[0]))))
            for _ in range(10):
                row = [draw.randrange(events_many(frame)) for _ in range(draw.randrange(8))]
                self.assertEqual(read_events(frame, processor, 0, row)[0], read_events(frame, least, 0, row)[0])
                self.assertEqual(guess_behind(frame, processor, 0, row), guess_behind(frame, least, 0, row))

    def test_numbered_as_they_come(self):
        for frame, processor in some(seed=6):
            least, known = least_processor(frame, processor), [0]
            for state in range(len(least[0])):
                self.assertLess(state, len(known))
                for _, later in least[1][state]:
                    if later not in known:
                        self.assertEqual(later, len(known))
                        known.append(later)

    def test_same_exactly_if_alike(self):
        draw = random.Random(16)
        for frame, processor in some(30, 5, seed=7):
            states = len(processor[0])
            order = [0] + draw.sample(range(1, states), states - 1)
            numbers = {state: number for number, state in enumerate(order)}
            moved = (
                tuple(processor[0][state] for state in order),
                tuple(tuple((beats, numbers[later]) for beats, later in processor[1][state]) for state in order))
            more = (moved[0] + (3,), moved[1] + (((7, 0),) * events_many(frame),))
            self.assertEqual(least_processor(frame, moved), least_processor(frame, processor))
            self.assertEqual(least_processor(frame, more), least_processor(frame, processor))
            changed = list(processor[1][0])
            changed[0] = (changed[0][0] + 1, changed[0][1])
            other = (processor[0], (tuple(changed),) + processor[1][1:])
            self.assertNotEqual(least_processor(frame, other), least_processor(frame, processor))

    def test_a_last_state_is_never_come_to(self):
        self.assertEqual(least_processor(SMALL, ((1, 2), (((1, 0),) * 3, ((5, 1),) * 3))), ((1,), (((1, 0),) * 3,)))


class BesideTest(unittest.TestCase):
    def test_pairs_as_they_come(self):
        for (frame, one), (_, other) in zip(some(20, 4, seed=8), some(20, 4, seed=8)):
            self.check(frame, one, other)
        draw = random.Random(17)
        for frame in FRAMES:
            many = events_many(frame)
            self.check(frame, some_processor(draw, many, 3), some_processor(draw, many, 2))

    def check(self, frame, one, other):
        told = put_beside(frame, one, other)
        need_processor(frame, told)
        known = [(0, 0)]
        for pair in known:
            state = known.index(pair)
            self.assertEqual(told[0][state], one[0][pair[0]])
            for (beats, later), (more, last), (both, behind) in zip(one[1][pair[0]], other[1][pair[1]], told[1][state]):
                if (later, last) not in known:
                    known.append((later, last))
                self.assertEqual((both, behind), (beats + more, known.index((later, last))))
        self.assertEqual(len(known), len(told[0]))

    def test_views_are_the_sums(self):
        draw = random.Random(18)
        for frame in FRAMES:
            many = events_many(frame)
            one, other = some_processor(draw, many, 3), some_processor(draw, many, 2)
            if frame[4]:
                guess = draw.randrange(4)
                one, other = ((guess,) * 3, one[1]), ((guess,) * 2, other[1])
            told = put_beside(frame, one, other)
            for program in some_programs(frame, 5, seed=9):
                for datum in data_of(frame)[::4]:
                    sums = [sum(beats) for beats in zip(
                        view_of(frame, one, program, datum), view_of(frame, other, program, datum))]
                    self.assertEqual(list(view_of(frame, told, program, datum)), sums)

    def counting(self, states):
        """A processor that counts fences round."""
        return (0,) * states, tuple(((1, (state + 1) % states), (1, state), (1, state)) for state in range(states))

    def test_sixty_states_and_more(self):
        for one, other, many in ((7, 8, 56), (4, 15, 60), (12, 5, 60), (60, 1, 60), (60, 60, 60), (10, 6, 30)):
            told = put_beside(SMALL, self.counting(one), self.counting(other))
            self.assertEqual(len(told[0]), many)
        for one, other in ((61, 1), (9, 7), (11, 6), (8, 9), (59, 60)):
            if one <= 60:
                self.assertEqual(
                    outcome(put_beside, SMALL, self.counting(one), self.counting(other)), (Refused, "states"))

    def test_any_values(self):
        good = (SMALL, SLOW, SLOW)
        try_wrong(self, put_beside, good, {1: InvalidProcessor, 2: InvalidProcessor})
        try_order(self, put_beside, good, {
            0: (None, (InvalidFrame, -1)), 1: (((4,), (0,)), (InvalidProcessor, 0)), 2: ((0,), (InvalidProcessor, -1))})


class TellingTest(unittest.TestCase):
    def test_told_apart_exactly_with_unlike_steps(self):
        told = 0
        for frame in FRAMES:
            for program in some_programs(frame, 14, seed=10):
                data = data_of(frame)
                steps = {datum: run_steps(frame, program, datum) for datum in data}
                if max(map(len, steps.values())) > 50:
                    continue
                for one, other in list(itertools.product(data, data))[::7]:
                    if steps[one] == steps[other]:
                        self.assertEqual(
                            outcome(telling_processor, frame, program, one, other), (Refused, "alike"))
                        continue
                    told += 1
                    processor = telling_processor(frame, program, one, other)
                    need_processor(frame, processor)
                    self.assertTrue(is_tupled(processor))
                    self.assertNotEqual(
                        view_of(frame, processor, program, one), view_of(frame, processor, program, other))
        self.assertGreater(told, 300)

    def test_late_steps(self):
        # 49 steps ahead; at the last one wrong ways are unlike at their third event alone.
        frame = (2, 3, 0, (AND,), 3)
        wrong = (("op", 0, 0, 0, 0), ("op", 0, 0, 0, 0), ("op", 0, 0, 2, 0))
        program = (("fork", 1, (), wrong),) * 49 + (("fork", 0, (), wrong[:2] + (("op", 0, 0, 2, 2),)),)
        one, other = (0, 0, 0), (0, 0, 1)
        self.assertNotEqual(run_steps(frame, program, one), run_steps(frame, program, other))
        for rows in (program, (("fence",),) * 49 + program[-1:]):
            processor = telling_processor(frame, rows, one, other)
            need_processor(frame, processor)
            self.assertNotEqual(view_of(frame, processor, rows, one), view_of(frame, processor, rows, other))

    def test_loops_are_unrolled(self):
        frame = (3, 2, 0, (SUM3,), 0)
        program = (("loop", 4, (("loop", 3, (("op", 0, 0, 0, 1),)),)), ("op", 0, 1, 0, 0))
        processor = telling_processor(frame, program, (0, 0), (1, 0))
        self.assertNotEqual(
            view_of(frame, processor, unrolled(frame, program), (0, 0)), view_of(frame, processor, program, (1, 0)))

    def test_any_values(self):
        frame = (2, 1, 0, (AND,), 0)
        good = (frame, (("op", 0, 0, 0, 0),), (0,), (1,))
        self.assertEqual(outcome(telling_processor, frame, (), (0,), (1,)), (Refused, "alike"))
        self.assertEqual(outcome(telling_processor, *good[:3], (0,)), (Refused, "alike"))
        for value in ANY + [(2,), (HUGE,), (0, 0)]:
            if value not in ((0,), (1,)) or isinstance(value, list) or isinstance(value[0], bool):
                self.assertEqual(outcome(telling_processor, *good[:2], value, (1,)), (InvalidDatum, 0), value)
                self.assertEqual(outcome(telling_processor, *good[:2], (1,), value), (InvalidDatum, 1), value)
        for value in ANY:
            told = outcome(telling_processor, frame, value, (0,), (1,))
            self.assertIn(told[0], (InvalidProgram, Refused, "told"), value)
        try_order(self, telling_processor, good, {
            0: (None, (InvalidFrame, -1)), 1: ((0,), (InvalidProgram, 0)), 2: ([0], (InvalidDatum, 0)),
            3: (None, (InvalidDatum, 1))})


if __name__ == "__main__":
    unittest.main()
