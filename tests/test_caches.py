"""[41], [43], [44]: caches."""

import itertools
import random
import unittest

from leastpromise.caches import (
    cache_lines, cache_processor, cache_views, first_in, least_cap, least_recent, stay_most)
from leastpromise.court import is_kept
from leastpromise.errors import InvalidCache, InvalidFrame, InvalidIndex, InvalidSize, Refused
from leastpromise.events import frame_events, need_processor, read_events, view_of
from leastpromise.leaks import least_promises
from leastpromise.runs import run_steps, trace_of, unlike_atoms
from tests.samples import ANY, HUGE, XOR, data_of, outcome, some_programs, try_order, try_wrong

FOREVER = (((0, 0), 0, 1), ((1, 1), 1, 1))
ONE = (((0,), 0, 0),)


def some_cache(draw, lines, controls):
    return tuple(
        (tuple(draw.randrange(controls) for _ in range(lines)), draw.randrange(lines), draw.randrange(controls))
        for _ in range(controls))


def some_caches(many, seed, lines=3, controls=3):
    draw = random.Random(seed)
    return [some_cache(draw, draw.randrange(1, lines + 1), draw.randrange(1, controls + 1)) for _ in range(many)]


def slow_cache(cache, row):
    """(view, lines), by a list of what the lines hold."""
    control, held, view = 0, [None] * len(cache[0][0]), []
    for name in row:
        hits, line, later = cache[control]
        if name in held:
            view.append(1)
            control = hits[held.index(name)]
        else:
            view.append(0)
            held[line] = name
            control = later
    return tuple(view), tuple(held)


def queue_view(row, lines, recent):
    """What a queue of names shows, that drops the first one; a hit moves its name to the end if recent."""
    queue, view = [], []
    for name in row:
        view.append(int(name in queue))
        if name not in queue or recent:
            queue = [other for other in queue if other != name] + [name]
        queue = queue[-lines:]
    return tuple(view)


def ages(row, cap):
    told = []
    for at, name in enumerate(row):
        before = [place for place in range(at) if row[place] == name]
        told.append(min(cap, len(set(row[before[-1] + 1:at]))) if before else cap)
    return tuple(told)


def rows_of(length):
    """All rows of this length, names numbered as they first come."""
    rows = [()]
    for _ in range(length):
        rows = [row + (name,) for row in rows for name in range(max(row, default=-1) + 2)]
    return rows


def stays_seen(cache, length):
    """The most unlike other names since the last access of a name that is held, in rows of up to this length."""
    most = 0
    for row in rows_of(length):
        for name in cache_lines(cache, row):
            if name is not None:
                last = max(at for at in range(length) if row[at] == name)
                most = max(most, len(set(row[last + 1:])))
    return most


class CachesTest(unittest.TestCase):
    def test_the_printed_example(self):
        row = [7, 8, 7, 9, 7, 8]
        self.assertEqual(cache_views(first_in(2), row), (0, 0, 1, 0, 0, 0))
        self.assertEqual(cache_views(least_recent(2), row), (0, 0, 1, 0, 1, 0))
        self.assertEqual((least_cap(first_in(2)), least_cap(least_recent(2)), least_cap(FOREVER)), (3, 2, None))

    def test_views_and_lines(self):
        self.assertEqual(cache_views(ONE, (5, 5, HUGE, HUGE, 5)), (0, 1, 0, 1, 0))
        self.assertEqual(cache_lines(ONE, [5, HUGE]), (HUGE,))
        self.assertEqual(cache_views(ONE, []), ())
        self.assertEqual(cache_lines(FOREVER, ()), (None, None))
        self.assertEqual(cache_lines(FOREVER, [3]), (3, None))
        self.assertEqual(cache_lines(FOREVER, [3, 4, 5]), (3, 5))
        draw = random.Random(41)
        for cache in some_caches(60, 41, 4, 5):
            for _ in range(6):
                row = [draw.randrange(6) for _ in range(draw.randrange(15))]
                self.assertEqual((cache_views(cache, row), cache_lines(cache, tuple(row))), slow_cache(cache, row))

    def test_first_in_and_least_recent(self):
        draw = random.Random(42)
        for lines in (1, 2, 3, 4):
            for function, recent in ((first_in, False), (least_recent, True)):
                cache = function(lines)
                self.assertEqual({len(control[0]) for control in cache}, {lines})
                rows = rows_of(6) + [[draw.randrange(lines + 2) for _ in range(14)] for _ in range(200)]
                for row in rows:
                    self.assertEqual(cache_views(cache, row), queue_view(row, lines, recent), (lines, row))
            first = [cache_lines(least_recent(lines), tuple(range(many))) for many in range(lines + 1)]
            self.assertEqual(first, [
                tuple(range(many)) + (None,) * (lines - many) for many in range(lines + 1)])
            self.assertEqual(cache_lines(first_in(lines), range_tuple(lines + 1)), (lines,) + range_tuple(lines)[1:])

    def test_wrong_lines(self):
        for function in (first_in, least_recent):
            for value in ANY:
                if isinstance(value, bool) or value not in (1, 2, 3, 4):
                    self.assertEqual(outcome(function, value), (InvalidSize, "lines"), value)

    def test_wrong_caches(self):
        good = ((0, 1), 0, 1)
        for value in (None, 0, (), [good], "ab", True, (good,) * 61):
            for function in (cache_views, cache_lines):
                self.assertEqual(outcome(function, value, None), (InvalidCache, -1), value)
            self.assertEqual(outcome(stay_most, value), (InvalidCache, -1))
            self.assertEqual(outcome(least_cap, value), (InvalidCache, -1))
        wrong = [
            None, (), [(0, 1), 0, 1], ((0, 1), 0), ((0, 1), 0, 1, 0), ([0, 1], 0, 1), ((), 0, 1), ((0,) * 5, 0, 1),
            ((0, 2), 0, 1), ((0, -1), 0, 1), ((0, True), 0, 1), ((0, None), 0, 1), ((0, 1), 2, 1), ((0, 1), -1, 1),
            ((0, 1), True, 1), ((0, 1), None, 1), ((0, 1), 0, 2), ((0, 1), 0, -1), ((0, 1), 0, True), ((0, 1), 0, HUGE),
            (0, 0, 0), ((0, 1), 0, "0"), 3]
        for control in wrong:
            self.assertEqual(outcome(cache_views, (control, control), ()), (InvalidCache, 0), control)
            self.assertEqual(outcome(stay_most, (good, control)), (InvalidCache, 1), control)
        for control in (((0,), 0, 1), ((0, 1, 0), 0, 1)):
            self.assertEqual(outcome(cache_lines, (good, control), ()), (InvalidCache, 1))
        self.assertEqual(outcome(cache_views, (good, good), ()), ("told", ()))
        self.assertEqual(outcome(cache_views, (((0,), 0, 0),) * 60, ()), ("told", ()))

    def test_wrong_rows(self):
        for function in (cache_views, cache_lines):
            for value in (None, 0, "01", True):
                self.assertEqual(outcome(function, ONE, value), (InvalidIndex, -1))
            for wrong in (-1, True, None, "0", (0,), -HUGE):
                self.assertEqual(outcome(function, ONE, [0, 7, wrong, wrong]), (InvalidIndex, 2), wrong)
            try_wrong(self, function, (ONE, ()), {0: InvalidCache, 1: InvalidIndex})
            try_order(self, function, (ONE, ()), {0: ([], (InvalidCache, -1)), 1: ([None], (InvalidIndex, 0))})
        for function in (stay_most, least_cap):
            try_wrong(self, function, (ONE,), {0: InvalidCache})


def range_tuple(many):
    return tuple(range(many))


class CapsTest(unittest.TestCase):
    def test_told_caches(self):
        for lines in (1, 2, 3, 4):
            self.assertEqual(stay_most(least_recent(lines)), lines - 1)
            self.assertEqual(least_cap(least_recent(lines)), lines)
            self.assertEqual(stay_most(first_in(lines)), 2 * lines - 2)
            self.assertEqual(least_cap(first_in(lines)), 2 * lines - 1)
        self.assertIsNone(stay_most(FOREVER))

    def test_some_caches_by_all_rows(self):
        bounded = 0
        for cache in some_caches(220, 43, 3, 4):
            most, cap = stay_most(cache), least_cap(cache)
            seen = stays_seen(cache, 6)
            if most is None:
                self.assertIsNone(cap)
                # No cycle that counts is longer than 4 controls: behind so many rows at least some count is there.
                self.assertGreaterEqual(stays_seen(cache, 7), 1)
            else:
                bounded += 1
                self.assertEqual(cap, most + 1)
                self.assertLessEqual(seen, most)
                if most <= 3:
                    self.assertEqual(max(seen, stays_seen(cache, 8)), most, cache)
        self.assertGreater(bounded, 40)

    def test_caps_that_are_kept_by_all_rows(self):
        kept = 0
        for cache in some_caches(60, 44, 2, 3):
            least = least_cap(cache)
            for cap in range(4):
                views = {}
                unlike = False
                for row in rows_of(7):
                    view = cache_views(cache, row)
                    unlike = unlike or views.setdefault(ages(row, cap), view) != view
                if least is not None and cap >= least:
                    kept += 1
                    self.assertFalse(unlike, (cache, cap))
                elif cap <= 2:
                    self.assertTrue(unlike, (cache, cap))
        self.assertGreater(kept, 20)

    def test_a_big_cache(self):
        draw = random.Random(45)
        cache = some_cache(draw, 4, 60)
        self.assertIsNone(stay_most(cache))
        hits = tuple((((at,) * 4), at % 4, (at + 1) % 60) for at in range(60))
        self.assertEqual(stay_most(hits), 6)


class CacheProcessorTest(unittest.TestCase):
    FRAME = (2, 2, 2, (XOR,), 2)

    def test_addresses_go_through_the_cache(self):
        draw = random.Random(46)
        for frame in (self.FRAME, (2, 1, 2, (), 0), (3, 2, 3, (), 1)):
            events = frame_events(frame)
            for cache in some_caches(12, 46, 2, 3) + [first_in(2), least_recent(2)]:
                processor = cache_processor(frame, cache, 2)
                self.assertIs(need_processor(frame, processor), processor)
                self.assertEqual(set(processor[0]), {2})
                numbers = [draw.randrange(len(events)) for _ in range(30)]
                asked = [events[number][1] for number in numbers if events[number][0] in ("load", "store", "wrong load")]
                view = iter(cache_views(cache, asked))
                beats = tuple(
                    2 - next(view) if events[number][0] in ("load", "store", "wrong load") else 1 for number in numbers)
                self.assertEqual(read_events(frame, processor, 0, numbers)[0], beats)

    def test_the_guess_is_in_all_states(self):
        for guess in range(4):
            self.assertEqual(set(cache_processor(self.FRAME, first_in(2), guess)[0]), {guess})
        for value in ANY:
            if isinstance(value, bool) or value not in (0, 1, 2, 3):
                self.assertEqual(outcome(cache_processor, self.FRAME, ONE, value), (InvalidSize, "guess"), value)

    def test_its_views_hang_on_addresses_alone(self):
        parted = set()
        for guess in (0, 3):
            lot = (2, 4, 8) if guess else (2, 4)
            processor = cache_processor(self.FRAME, least_recent(2), guess)
            for program in some_programs(self.FRAME, 80, seed=44):
                seen = {}
                for datum in data_of(self.FRAME):
                    view = view_of(self.FRAME, processor, program, datum)
                    trace = trace_of(self.FRAME, program, datum, lot)
                    self.assertEqual(seen.setdefault(trace, (view, datum))[0], view)
                    for other, second in list(seen.values()):
                        atoms, sides = unlike_atoms(self.FRAME, program, datum, second)
                        if other != view and not sides:
                            parted.add((guess, atoms))
        self.assertTrue(all({2, 4, 8} & set(atoms) for _, atoms in parted))
        for guess, atom in ((0, 2), (3, 2), (3, 4), (3, 8)):
            self.assertTrue(any(own == guess and atom in atoms for own, atoms in parted), (guess, atom))

    def test_the_promises_that_it_keeps(self):
        draw = random.Random(47)
        for frame in ((2, 2, 2, (), 1), (2, 2, 2, (XOR,), 0), (2, 2, 2, (XOR,), 1), (2, 2, 2, (), 2)):
            for cache in some_caches(3, 47, 2, 3) + [ONE, first_in(2), least_recent(2)]:
                for guess in range(4):
                    needed = {2, 4, 8} if guess and frame[4] else {2, 4}
                    processor = cache_processor(frame, cache, guess)
                    self.assertEqual(least_promises(frame, processor), (tuple(sorted(needed)),))
                    for lot in [tuple(sorted(needed - {atom})) for atom in needed] + [
                            tuple(atom for atom in range(10) if draw.random() < 0.8)]:
                        self.assertIs(is_kept(frame, processor, lot), needed <= set(lot), (frame, cache, guess, lot))

    def test_each_of_the_atoms_is_shown(self):
        programs = {
            2: (("load", 0, 0), ("load", 0, 1)), 4: (("load", 0, 0), ("store", 1, 0)),
            8: (("load", 1, 1), ("fork", 0, (), (("load", 1, 1),)), ("load", 1, 0))}
        processor = cache_processor(self.FRAME, first_in(1), 3)
        for program in programs.values():
            views = {view_of(self.FRAME, processor, program, datum) for datum in data_of(self.FRAME) if datum[0] == 0}
            self.assertGreater(len(views), 1)
        fork = run_steps(self.FRAME, programs[8], (0, 1, 0, 0))[1]
        self.assertEqual(fork, (("fork", 0), (("wrong load", 0, 0),)))

    def test_refusals_behind_all_other_errors(self):
        dry, many = (2, 2, 0, (XOR,), 0), tuple(((at,) * 4, at % 4, (at + 1) % 60) for at in range(60))
        self.assertEqual(outcome(cache_processor, dry, ONE, 0), (Refused, "cells"))
        self.assertEqual(outcome(cache_processor, dry, many, 4), (InvalidSize, "guess"))
        self.assertEqual(outcome(cache_processor, dry, many, 0), (Refused, "cells"))
        walk = tuple(((at + 1,) if at < 59 else (59,), 0, min(at + 1, 59)) for at in range(60))
        self.assertEqual(outcome(cache_processor, self.FRAME, walk, 0), (Refused, "states"))
        line = tuple(((at, at), 0, min(at + 1, 19)) for at in range(20))
        told = cache_processor(self.FRAME, line, 0)
        self.assertLessEqual(len(told[0]), 60)

    def test_up_to_sixty_states_are_told(self):
        # From control c on a hit goes on, a miss too: the empty one, then two places for each further control.
        def chain(controls):
            last = controls - 1
            return tuple(((min(at + 1, last),), 0, min(at + 1, last)) for at in range(controls))
        self.assertEqual(len(cache_processor(self.FRAME, chain(30), 1)[0]), 59)
        self.assertEqual(outcome(cache_processor, self.FRAME, chain(31), 1), (Refused, "states"))
        ring = tuple(((at,), 0, (at + 1) % 59) for at in range(59))
        self.assertEqual(len(self.places(ring)), 119)
        self.assertEqual(outcome(cache_processor, self.FRAME, ring, 1), (Refused, "states"))
        for controls in range(27, 33):
            odd = tuple(((at,), 0, (at + 1) % controls) for at in range(controls))
            many = len(self.places(odd))
            told = outcome(cache_processor, self.FRAME, odd, 1)
            self.assertEqual(told[0], "told" if many <= 60 else Refused, (controls, many))

    def places(self, cache):
        """All (control, lines) to which two names lead."""
        begin = (0, (None,) * len(cache[0][0]))
        found, waiting = {begin}, [begin]
        while waiting:
            control, held = waiting.pop()
            hits, line, later = cache[control]
            for name in (0, 1):
                if name in held:
                    place = (hits[held.index(name)], held)
                else:
                    place = (later, held[:line] + (name,) + held[line + 1:])
                if place not in found:
                    found.add(place)
                    waiting.append(place)
        return found

    def test_any_values(self):
        good = (self.FRAME, ONE, 0)
        try_wrong(self, cache_processor, good, {1: InvalidCache, 2: InvalidSize})
        self.assertEqual(outcome(cache_processor, None, None, None), (InvalidFrame, -1))
        try_order(self, cache_processor, good, {
            0: ((2, 2, 2, (XOR,), 4), (InvalidFrame, 4)), 1: ((), (InvalidCache, -1)), 2: (True, (InvalidSize, "guess"))})
        self.assertEqual(cache_processor(frame=self.FRAME, cache=ONE, guess=0), cache_processor(*good))


if __name__ == "__main__":
    unittest.main()
