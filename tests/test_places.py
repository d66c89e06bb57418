"""[31], [32]: loud sites; hidden, shielded, covered spots."""

import itertools
import random
import unittest

from leastpromise.bargain import parting_processor
from leastpromise.court import is_kept
from leastpromise.errors import InvalidFrame, InvalidProcessor, InvalidProgram, InvalidSpots
from leastpromise.events import events_many, frame_events, view_of
from leastpromise.leaks import least_promises
from leastpromise.places import covered_lots, hidden_spots, loud_sites, shielded_spots
from leastpromise.programs import unrolled
from leastpromise.runs import run_steps, step_atoms
from leastpromise.traces import greatest_promise, is_quiet, spot_promises
from tests.samples import (
    AND, ANY, HUGE, SUM3, XOR, data_of, is_tupled, kind_processor, outcome, quiet_processor, some_programs, try_order,
    try_wrong)

FRAMES = [
    (2, 1, 0, (AND,), 1), (2, 2, 0, (XOR,), 1), (2, 1, 2, (AND,), 1), (2, 3, 0, (XOR,), 2), (2, 2, 2, (AND,), 1),
    (3, 2, 0, (SUM3,), 1), (2, 4, 0, (AND, XOR), 0), (2, 1, 2, (), 3)]
STILL = ((0,), (((1, 0),) * 3,))


def processors(frame, many=2, seed=0):
    draw = random.Random(f"{seed} {frame}")
    events = frame_events(frame)
    told = [kind_processor(draw, events, draw.randrange(1, 4), 0.15) for _ in range(many)]
    return told + [quiet_processor(draw, len(events), draw.randrange(1, 4), 0.03) for _ in range(many)]


def subsets(things):
    for many in range(len(things) + 1):
        yield from itertools.combinations(things, many)


def alike_but_for(frame, spots):
    """All two data, the lesser first, that have the same values elsewhere."""
    return [
        (one, other) for one, other in itertools.combinations(data_of(frame), 2)
        if all(spot in spots for spot in range(len(one)) if one[spot] != other[spot])]


def paths(rows, datum_steps, ahead=()):
    """The paths of the rows that have these steps, one behind another; what steps are left."""
    told = []
    for at, row in enumerate(rows):
        step = datum_steps.pop(0)
        told.append(ahead + (at,))
        if row[0] == "fork":
            side = step[0][1]
            told += paths(row[2 + side], datum_steps, ahead + (at, side))
    return told


def slow_sites(frame, program, spots):
    """All sites, each two data by all pairs."""
    rows, runs = unrolled(frame, program), {}
    for datum in data_of(frame):
        steps = run_steps(frame, rows, datum)
        runs[datum] = list(zip(paths(rows, list(steps)), steps))
    found = {}
    for one, other in alike_but_for(frame, spots):
        for (path, step), (_, further) in zip(runs[one], runs[other]):
            if step[0][0] == "fork" and step[0] != further[0]:
                found.setdefault((path, -1), []).append((one, other))
                break
            for atom in range(10):
                if step_atoms(step)[atom] != step_atoms(further)[atom]:
                    found.setdefault((path, atom), []).append((one, other))
    return tuple(sorted(site + min(pairs) for site, pairs in found.items()))


class SitesTest(unittest.TestCase):
    def test_by_hand(self):
        frame = (2, 2, 0, (XOR,), 1)
        program = (("fork", 0, (), (("op", 0, 1, 1, 1),)), ("op", 0, 0, 1, 0))
        self.assertEqual(loud_sites(frame, program, ()), ())
        self.assertEqual(loud_sites(frame, program, (0,)), (((0,), -1, (0, 0), (1, 0)),))
        self.assertEqual(loud_sites(frame, program, (1,)), (
            ((0,), 6, (0, 0), (0, 1)), ((0,), 7, (0, 0), (0, 1)), ((0, 1, 0), 0, (1, 0), (1, 1)),
            ((0, 1, 0), 1, (1, 0), (1, 1)), ((1,), 0, (0, 0), (0, 1))))
        loops = (("loop", 2, (("op", 0, 0, 0, 0),)),)
        self.assertEqual(loud_sites(frame, loops, [0]), (((0,), 0, (0, 0), (1, 0)), ((0,), 1, (0, 0), (1, 0))))

    def test_against_all_pairs(self):
        seen = set()
        for frame in FRAMES:
            draw = random.Random(f"31 {frame}")
            spots = list(range(frame[1] + frame[2]))
            for program in some_programs(frame, 16, seed=31, depth=3):
                secrets = sorted(draw.sample(spots, draw.randrange(1, len(spots) + 1)))
                told = loud_sites(frame, program, secrets)
                self.assertTrue(is_tupled(told))
                self.assertEqual(told, slow_sites(frame, program, secrets))
                self.assertEqual(told, loud_sites(frame, program, tuple(secrets)))
                seen |= {(frame, atom) for _, atom, _, _ in told}
        self.assertEqual({atom for _, atom in seen}, {-1, 0, 1, 2, 3, 4, 5, 6, 7, 8, 9})

    def test_single_spots(self):
        for frame in FRAMES:
            spots = range(frame[1] + frame[2])
            for program in some_programs(frame, 12, seed=32):
                single = [loud_sites(frame, program, (spot,)) for spot in spots]
                for secrets in subsets(spots):
                    told = loud_sites(frame, program, secrets)
                    forks = any(atom == -1 for _, atom, _, _ in told)
                    own = [site for spot in secrets for site in single[spot]]
                    self.assertEqual(forks, any(atom == -1 for _, atom, _, _ in own))
                    promise = greatest_promise(frame, program, secrets)
                    self.assertEqual(promise is None, forks)
                    if not forks:
                        self.assertEqual({site[:2] for site in told}, {site[:2] for site in own})
                        self.assertEqual({atom for _, atom, _, _ in told}, set(range(10)) - set(promise))

    def test_a_sum_of_two_spots(self):
        # Where a fork hangs on the sum of two spots, just both together show that one is read behind it.
        frame = (2, 3, 0, (XOR,), 0)
        program = (("op", 0, 2, 0, 1), ("fork", 2, (("op", 0, 2, 0, 0),), (("op", 0, 2, 0, 0),)))
        single = {site[:2] for spot in (0, 1) for site in loud_sites(frame, program, (spot,))}
        both = {site[:2] for site in loud_sites(frame, program, (0, 1))}
        self.assertEqual(both - single, {((1, side, 0), atom) for side in (0, 1) for atom in (0, 1)})

    def test_wrong_secrets(self):
        frame = (2, 1, 2, (), 0)
        for value in (None, 0, "01", True):
            self.assertEqual(outcome(loud_sites, frame, (), value), (InvalidSpots, -1), value)
        for wrong in (3, -1, True, None, "1", HUGE, (1,), 0):
            self.assertEqual(outcome(loud_sites, frame, (), [0, wrong, None]), (InvalidSpots, 1), wrong)
        try_wrong(self, loud_sites, (frame, (), ()), {1: InvalidProgram, 2: InvalidSpots})
        try_order(self, loud_sites, (frame, (), ()), {
            0: (None, (InvalidFrame, -1)), 1: ((0,), (InvalidProgram, 0)), 2: ([1, 1], (InvalidSpots, 1))})


class SpotsTest(unittest.TestCase):
    def test_by_hand(self):
        frame = (2, 3, 0, (XOR,), 0)
        many = events_many(frame)
        second = ((0,), (tuple((2 if event[0] == "op" and event[3] else 1, 0) for event in frame_events(frame)),))
        still = ((0,), (((1, 0),) * many,))
        program = (("op", 0, 2, 0, 1),)
        self.assertEqual(hidden_spots(frame, second, program), (0, 2))
        self.assertEqual(shielded_spots(frame, second, program), (0, 2))
        self.assertEqual(covered_lots(frame, second, program), ((0, 2),))
        self.assertEqual(covered_lots(frame, still, program), ((0, 1, 2),))
        self.assertEqual(covered_lots(frame, second, ()), ((0, 1, 2),))
        fork = (("fork", 0, (("fence",),), (("fence",),)),)
        self.assertEqual(hidden_spots(frame, still, fork), (0, 1, 2))
        self.assertEqual(shielded_spots(frame, still, fork), (1, 2))
        self.assertEqual(covered_lots(frame, still, fork), ((1, 2),))

    def test_unlike_promises_for_unlike_secrets(self):
        # What is told hangs on an operation's numbers and a load's value both: atoms 0, 1, 3 are the one leak.
        frame = (2, 1, 2, (XOR,), 0)
        processor = ((0, 0), (
            ((1, 0),) * 4 + ((1, 1),) * 4 + ((1, 0),) * 4 + ((2, 0), (2, 1), (2, 1)),
            ((1, 1),) * 2 + ((1, 0),) * 6 + ((2, 0),) * 4 + ((1, 0), (1, 1), (1, 1))))
        self.assertEqual(least_promises(frame, processor), ((0,), (1,), (3,)))
        program = (("op", 0, 0, 0, 0), ("load", 0, 0))
        self.assertEqual(spot_promises(frame, program)[:2], ((2, 3, 4, 5, 6, 7, 8, 9), (0, 1, 2, 4, 5, 6, 7, 8, 9)))
        self.assertEqual(covered_lots(frame, processor, program), ((0, 2), (1, 2)))
        self.assertEqual(shielded_spots(frame, processor, program), (0, 1, 2))
        self.assertEqual(hidden_spots(frame, processor, program), (0, 1, 2))

    def test_against_all_lots_and_data(self):
        greater, more = 0, 0
        for frame in FRAMES[:6]:
            spots = tuple(range(frame[1] + frame[2]))
            for processor in processors(frame, 1):
                for program in some_programs(frame, 8, seed=34):
                    hidden = hidden_spots(frame, processor, program)
                    shielded = shielded_spots(frame, processor, program)
                    covered = covered_lots(frame, processor, program)
                    self.assertTrue(is_tupled((hidden, shielded, covered)))
                    views = {datum: view_of(frame, processor, program, datum) for datum in data_of(frame)}
                    self.assertEqual(hidden, tuple(spot for spot in spots if all(
                        views[one] == views[other] for one, other in alike_but_for(frame, (spot,)))))
                    for lot in subsets(spots):
                        quiet = all(views[one] == views[other] for one, other in alike_but_for(frame, lot))
                        self.assertEqual(quiet, set(lot) <= set(hidden))
                    promises = spot_promises(frame, program)
                    self.assertEqual(shielded, tuple(
                        spot for spot in spots if promises[spot] is not None and is_kept(frame, processor, promises[spot])))
                    self.assertTrue(set(shielded) <= set(hidden))
                    self.check_covered(frame, processor, program, covered)
                    self.assertEqual(sorted(set(itertools.chain(*covered))), list(shielded))
                    greater += len(hidden) > len(shielded)
                    more += len(covered) > 1
        self.assertGreater(greater, 5)

    def check_covered(self, frame, processor, program, covered):
        spots = range(frame[1] + frame[2])
        kept = least_promises(frame, processor)
        quiet = [lot for lot in subsets(spots) if any(is_quiet(frame, program, lot, promise) for promise in kept)]
        greatest = [lot for lot in quiet if not any(set(lot) < set(other) for other in quiet)]
        self.assertEqual(covered, tuple(sorted(greatest)))

    def test_hidden_on_all_that_keep_a_promise(self):
        frame = (2, 2, 0, (XOR,), 1)
        for program in some_programs(frame, 20, seed=35):
            promises = spot_promises(frame, program)
            for lot in ((0,), (1, 6), (6, 7), (0, 1, 6, 7)):
                for spot in (0, 1):
                    within = promises[spot] is not None and set(lot) <= set(promises[spot])
                    parted = False
                    for one, other in alike_but_for(frame, (spot,)):
                        told = outcome(parting_processor, frame, program, one, other, lot)
                        if told[0] == "told":
                            parted = True
                            self.assertNotIn(spot, hidden_spots(frame, told[1], program))
                    self.assertEqual(parted, not within)

    def test_any_values(self):
        frame = (2, 1, 0, (), 0)
        good = (frame, STILL, ())
        for function in (hidden_spots, shielded_spots, covered_lots):
            try_order(self, function, good, {
                0: (None, (InvalidFrame, -1)), 1: (((4,), (0,)), (InvalidProcessor, 0)), 2: ((0,), (InvalidProgram, 0))})
            for place, error in {1: InvalidProcessor, 2: InvalidProgram}.items():
                for value in ANY:
                    told = outcome(function, *good[:place], value, *good[place + 1:])
                    self.assertIn(told[0], ("told", error), (place, value))


if __name__ == "__main__":
    unittest.main()
