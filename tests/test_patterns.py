"""[42], [43]: patterns of rows, ages, caches and rows that part."""

import itertools
import random
import unittest

from leastpromise.caches import cache_views, first_in, least_cap, least_recent, stay_most
from leastpromise.errors import InvalidCache, InvalidIndex, InvalidSize
from leastpromise.patterns import access_ages, cap_rows, parting_cache, row_pattern
from tests.samples import ANY, HUGE, is_tupled, outcome, try_order, try_wrong
from tests.test_caches import FOREVER, ONE, some_caches


def slow_pattern(row):
    order = list(dict.fromkeys(row))
    return tuple(order.index(name) for name in row)


def slow_ages(row, cap):
    told = []
    for at, name in enumerate(row):
        last = [place for place in range(at) if row[place] == name]
        told.append(min(cap, len(set(row[last[-1] + 1:at]))) if last else cap)
    return tuple(told)


def is_told_cache(cache):
    """Whether it is a cache of one or two lines and at most 60 controls."""
    return is_tupled(cache) and 1 <= len(cache) <= 60 and all(
        len(hits) == len(cache[0][0]) in (1, 2) and line in range(len(hits)) and later in range(len(cache))
        and all(control in range(len(cache)) for control in hits) for hits, line, later in cache)


class PatternsTest(unittest.TestCase):
    def test_the_printed_example(self):
        row = [7, 8, 7, 9, 7, 8]
        self.assertEqual(
            (row_pattern(row), access_ages(row, 2), cache_views(first_in(2), row), cache_views(least_recent(2), row)),
            ((0, 1, 0, 2, 0, 1), (2, 2, 1, 2, 1, 2), (0, 0, 1, 0, 0, 0), (0, 0, 1, 0, 1, 0)))
        self.assertEqual(
            (least_cap(first_in(2)), least_cap(least_recent(2)), least_cap(FOREVER)), (3, 2, None))

    def test_patterns(self):
        self.assertEqual(row_pattern(()), ())
        self.assertEqual(row_pattern([HUGE, 0, HUGE]), (0, 1, 0))
        for row in itertools.product(range(4), repeat=5):
            self.assertEqual(row_pattern(row), slow_pattern(row))
            self.assertEqual(row_pattern([HUGE - name for name in row]), row_pattern(list(row)))

    def test_all_short_rows(self):
        for length in range(5):
            rows = sorted({slow_pattern(row) for row in itertools.product(range(length), repeat=length)})
            for one, other in itertools.product(rows, rows):
                names = [HUGE - 3 * name for name in other]
                cache = parting_cache(one, names)
                self.assertEqual(cache is None, one == other)
                if cache is not None:
                    self.assertTrue(is_told_cache(cache), cache)
                    self.assertNotEqual(cache_views(cache, one), cache_views(cache, names))

    def test_rows_of_sixty_one(self):
        draw = random.Random(42)
        told = 0
        for _ in range(300):
            length, names = draw.choice((5, 20, 60, 61)), draw.choice((2, 3, 6, 40, 100))
            one = [draw.randrange(names) for _ in range(length)]
            other = list(one)
            for _ in range(draw.randrange(2)):
                other[draw.choice((-1, -1, draw.randrange(length)))] = draw.randrange(names + 2)
            cache = parting_cache(one, other)
            self.assertEqual(cache is None, slow_pattern(one) == slow_pattern(other))
            if cache is not None:
                told += 1
                self.assertTrue(is_told_cache(cache))
                self.assertNotEqual(cache_views(cache, one), cache_views(cache, other))
        self.assertGreater(told, 50)

    def test_the_last_places_of_the_longest_rows(self):
        ahead = list(range(60))
        for begin in (ahead, [0] * 60, [0, 1] * 30, ahead[:58] + [57, 59], ahead[:59] + [0], ahead[:58] + [3, 3]):
            lasts = [name for name in range(62) if name in begin or name == 61]
            for one, other in itertools.combinations(lasts, 2):
                cache = parting_cache(begin + [one], begin + [other])
                self.assertTrue(is_told_cache(cache))
                self.assertNotEqual(cache_views(cache, begin + [one]), cache_views(cache, begin + [other]))

    def test_one_pattern_looks_alike_on_every_cache(self):
        draw = random.Random(43)
        for cache in some_caches(30, 42):
            row = [draw.randrange(4) for _ in range(12)]
            self.assertEqual(cache_views(cache, row), cache_views(cache, [HUGE + 5 * name for name in row]))
            self.assertEqual(cache_views(cache, row), cache_views(cache, row_pattern(row)))

    def test_wrong_rows(self):
        for one, other in (([0], []), ((), [0]), ([0, 1], [0]), (range(62), range(62)), ([0] * 62, [0] * 62), ([0] * 62, [0])):
            self.assertEqual(outcome(parting_cache, list(one), list(other)), (InvalidSize, "rows"))
        self.assertIsNone(parting_cache(tuple(range(61)), list(range(61))))
        self.assertIsNone(parting_cache([], ()))
        for value in (None, 0, "01", True):
            self.assertEqual(outcome(row_pattern, value), (InvalidIndex, -1), value)
        for wrong in (-1, True, None, "1", (1,), -HUGE):
            self.assertEqual(outcome(row_pattern, [0, wrong, None]), (InvalidIndex, 1), wrong)
            self.assertEqual(outcome(parting_cache, [0], [0, wrong, None]), (InvalidIndex, 1), wrong)
        try_wrong(self, row_pattern, ((),), {0: InvalidIndex})
        good = ((0, 0), (0, 1))
        for place in (0, 1):
            for value in ANY:
                told = outcome(parting_cache, *good[:place], value, *good[place + 1:])
                self.assertTrue(told[0] in ("told", InvalidIndex) or told == (InvalidSize, "rows"), (place, value, told))
        try_order(self, parting_cache, good, {0: ([None], (InvalidIndex, 0)), 1: (None, (InvalidIndex, -1))})
        self.assertEqual(outcome(parting_cache, [0] * 62, [True]), (InvalidIndex, 0))


class AgesTest(unittest.TestCase):
    def test_against_slow_ones(self):
        self.assertEqual(access_ages((), 3), ())
        for row in itertools.product(range(3), repeat=5):
            for cap in range(4):
                self.assertEqual(access_ages(row, cap), slow_ages(row, cap))
        draw = random.Random(44)
        for _ in range(60):
            row = [draw.choice((0, 3, 5, 8, HUGE)) for _ in range(14)]
            for cap in (0, 1, 2, 7, HUGE):
                self.assertEqual(access_ages(row, cap), slow_ages(row, cap))

    def test_wrong_ones(self):
        good = ((0, 1, 0), 2)
        try_wrong(self, access_ages, good, {0: InvalidIndex, 1: InvalidSize})
        try_order(self, access_ages, good, {0: ((0, -1), (InvalidIndex, 1)), 1: (-1, (InvalidSize, "cap"))})
        for value in ANY:
            if isinstance(value, bool) or not isinstance(value, int) or value < 0:
                self.assertEqual(outcome(access_ages, (), value), (InvalidSize, "cap"), value)


class CapsTest(unittest.TestCase):
    def check(self, cache, cap):
        told, most = cap_rows(cache, cap), stay_most(cache)
        kept = most is not None and cap > most
        self.assertEqual(told is None, kept, (cache, cap))
        if not kept:
            one, other = told
            self.assertTrue(is_tupled(told))
            self.assertEqual(len(one), len(other))
            self.assertEqual(slow_ages(one, cap), slow_ages(other, cap))
            self.assertNotEqual(cache_views(cache, one), cache_views(cache, other))
        return kept

    def test_some_caches(self):
        seen = [self.check(cache, cap) for cache in some_caches(80, 43, 3, 4) for cap in range(8)]
        self.assertGreater(min(seen.count(True), seen.count(False)), 100)

    def test_told_caches(self):
        for lines in range(1, 5):
            for cap in range(8):
                self.assertIs(self.check(least_recent(lines), cap), cap >= lines)
                self.assertIs(self.check(first_in(lines), cap), cap >= 2 * lines - 1)
        for cap in range(8):
            self.assertFalse(self.check(FOREVER, cap))
        self.assertFalse(self.check(ONE, 0))
        self.assertTrue(self.check(ONE, 1))

    def test_wrong_ones(self):
        good = (ONE, 0)
        try_wrong(self, cap_rows, good, {0: InvalidCache, 1: InvalidSize})
        try_order(self, cap_rows, good, {0: ((None,), (InvalidCache, 0)), 1: (True, (InvalidSize, "cap"))})
        self.assertIsNone(cap_rows(ONE, HUGE))


if __name__ == "__main__":
    unittest.main()
