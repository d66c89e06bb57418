"""[29], [30]: programs and their secrets."""

import itertools
import random
import unittest

from leastpromise.errors import InvalidDatum, InvalidFrame, InvalidLot, InvalidProgram, InvalidSpots
from leastpromise.runs import trace_of
from leastpromise.traces import (
    deals, greatest_promise, greatest_secrets, is_quiet, loud_data, promise_on, spot_promises)
from tests.samples import AND, HUGE, XOR, data_of, outcome, some_programs, try_order, try_wrong

ALL = tuple(range(10))
FRAME = (2, 2, 0, (XOR,), 0)
FRAMES = [
    FRAME, (2, 1, 0, (XOR,), 1), (2, 2, 0, (AND, XOR), 2), (2, 1, 2, (AND,), 2), (2, 2, 2, (XOR,), 3), (2, 3, 0, (AND,), 1),
    (3, 2, 0, ((0, 1, 2, 1, 2, 0, 2, 0, 1),), 1), (2, 4, 0, (XOR,), 1)]
READS = (("op", 0, 0, 0, 1),)


def lots_of(many):
    return [lot for length in range(many + 1) for lot in itertools.combinations(range(many), length)]


def pairs_but_for(frame, secrets):
    """All two data that are alike but for these spots."""
    return [
        (one, other) for one, other in itertools.combinations(data_of(frame), 2)
        if all(spot in secrets or one[spot] == other[spot] for spot in range(len(one)))]


def slow_promise(frame, program, pairs):
    """The greatest lot by which all pairs have one trace, or None, atom by atom."""
    def alike(lot):
        return all(trace_of(frame, program, one, lot) == trace_of(frame, program, other, lot) for one, other in pairs)
    return tuple(atom for atom in ALL if alike((atom,))) if alike(()) else None


class TracesTest(unittest.TestCase):
    def test_the_printed_example(self):
        self.assertEqual(spot_promises(FRAME, READS), ((1, 2, 3, 4, 5, 6, 7, 8, 9), (0, 2, 3, 4, 5, 6, 7, 8, 9)))
        self.assertEqual([secrets for secrets, lot in deals(FRAME, READS)], [(), (0,), (0, 1), (1,)])

    def test_forks_and_empty_programs(self):
        fork = (("fork", 0, (), ()),)
        self.assertEqual(spot_promises(FRAME, fork), (None, ALL))
        self.assertEqual(spot_promises(FRAME, ()), (ALL, ALL))
        self.assertIsNone(greatest_promise(FRAME, fork, [0, 1]))
        self.assertEqual(greatest_promise(FRAME, fork, []), ALL)
        self.assertEqual(greatest_secrets(FRAME, fork, []), (1,))
        self.assertIs(is_quiet(FRAME, fork, [0], []), False)
        self.assertEqual(deals(FRAME, fork), (((1,), ALL),))
        self.assertEqual(deals(FRAME, ()), (((0, 1), ALL),))

    def test_wrong_ways_count(self):
        frame, program = (2, 2, 0, (XOR,), 1), (("fork", 0, (("op", 0, 1, 1, 1),), (("op", 0, 1, 1, 1),)),)
        self.assertEqual(spot_promises(frame, program), (None, (2, 3, 4, 5, 8, 9)))

    def test_all_against_all_pairs(self):
        for frame in FRAMES:
            for program in some_programs(frame, 4, seed=29):
                spots = frame[1] + frame[2]
                told = spot_promises(frame, program)
                self.assertEqual(list(told), [
                    slow_promise(frame, program, pairs_but_for(frame, (spot,))) for spot in range(spots)])
                for secrets in lots_of(spots):
                    promise = slow_promise(frame, program, pairs_but_for(frame, secrets))
                    self.assertEqual(greatest_promise(frame, program, list(secrets)), promise)
                    self.check_quiet(frame, program, secrets, promise)

    def check_quiet(self, frame, program, secrets, promise):
        for lot in ((), (0,), (1, 6), (2, 4), (3, 5, 7, 8, 9), ALL):
            quiet = promise is not None and set(lot) <= set(promise)
            self.assertIs(is_quiet(frame, program, list(secrets), list(lot)), quiet)
            self.assertEqual(set(secrets) <= set(greatest_secrets(frame, program, lot)), quiet)
            loud = loud_data(frame, program, secrets, lot)
            self.assertEqual(loud is None, quiet)
            if loud is not None:
                one, other = loud
                unlike = [spot for spot in range(len(one)) if one[spot] != other[spot]]
                self.assertEqual(len(unlike), 1)
                self.assertIn(unlike[0], secrets)
                self.assertNotEqual(trace_of(frame, program, one, lot), trace_of(frame, program, other, lot))

    def test_greatest_secrets_are_the_greatest(self):
        for frame in FRAMES[:5]:
            for program in some_programs(frame, 5, seed=31):
                for lot in ((), (0, 1), (6,), ALL):
                    told = greatest_secrets(frame, program, lot)
                    self.assertTrue(is_quiet(frame, program, told, lot))
                    for secrets in lots_of(frame[1] + frame[2]):
                        self.assertEqual(is_quiet(frame, program, secrets, lot), set(secrets) <= set(told))

    def test_promises_on_data(self):
        draw = random.Random(30)
        for frame in FRAMES:
            for program in some_programs(frame, 6, seed=32):
                data = data_of(frame)
                for many in (0, 1, 2, 3, 4):
                    some = draw.sample(data, min(many, len(data)))
                    pairs = list(itertools.combinations(some, 2))
                    self.assertEqual(promise_on(frame, program, some), slow_promise(frame, program, pairs))

    def test_deals_by_all_lots(self):
        for frame in FRAMES[:6]:
            for program in some_programs(frame, 5, seed=33):
                spots = frame[1] + frame[2]
                expected = []
                for secrets in lots_of(spots):
                    lot = greatest_promise(frame, program, secrets)
                    if lot is not None and greatest_secrets(frame, program, lot) == secrets:
                        expected.append((secrets, lot))
                told = deals(frame, program)
                self.assertEqual(told, tuple(sorted(expected)))
                self.assertLessEqual(len(told), 2 ** spots)
                self.check_deals(frame, program, told)

    def check_deals(self, frame, program, told):
        for secrets in lots_of(frame[1] + frame[2]):
            for lot in ((), (0,), (7,), (1, 9), ALL):
                some = any(set(secrets) <= set(own) and set(lot) <= set(atoms) for own, atoms in told)
                self.assertEqual(is_quiet(frame, program, secrets, lot), some)
        for one, other in itertools.product(told, told):
            for part in (0, 1):
                shared = tuple(sorted(set(one[part]) & set(other[part])))
                self.assertIn(shared, [deal[part] for deal in told])

    def test_wrong_secrets(self):
        def told(secrets):
            return outcome(greatest_promise, FRAME, READS, secrets)
        for value in (None, 0, "01", True):
            self.assertEqual(told(value), (InvalidSpots, -1))
        for wrong in (2, -1, True, None, "1", HUGE, (1,), 0):
            self.assertEqual(told([0, wrong, None]), (InvalidSpots, 1), wrong)
            self.assertEqual(outcome(is_quiet, FRAME, READS, (0, wrong), ()), (InvalidSpots, 1))
            self.assertEqual(outcome(loud_data, FRAME, READS, (0, wrong), ()), (InvalidSpots, 1))
        self.assertEqual(outcome(greatest_promise, (2, 2, 2, (), 0), (), [0, 1, 2, 3]), ("told", ALL))

    def test_any_values(self):
        first = {0: (None, (InvalidFrame, -1)), 1: ((None,), (InvalidProgram, 0))}
        for function in (spot_promises, deals):
            try_wrong(self, function, (FRAME, ()), {0: InvalidFrame, 1: InvalidProgram})
            try_order(self, function, (FRAME, ()), first)
        rest = (
            (greatest_promise, InvalidSpots, [2], 0), (greatest_secrets, InvalidLot, [10], 0),
            (promise_on, InvalidDatum, [(0, 0), (0, 0)], 1))
        for function, error, wrong, at in rest:
            good = (FRAME, (), ())
            try_wrong(self, function, good, {0: InvalidFrame, 1: InvalidProgram, 2: error})
            try_order(self, function, good, first | {2: (wrong, (error, at))})
        for function in (is_quiet, loud_data):
            good = (FRAME, (), (), ())
            try_wrong(self, function, good, {0: InvalidFrame, 1: InvalidProgram, 2: InvalidSpots, 3: InvalidLot})
            try_order(self, function, good, first | {2: (None, (InvalidSpots, -1)), 3: ([1, 1], (InvalidLot, 1))})


if __name__ == "__main__":
    unittest.main()
