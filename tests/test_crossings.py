"""[21]: least lots and crossings."""

import itertools
import random
import unittest

from leastpromise.crossings import are_crossings, crossings, least_lots
from leastpromise.errors import InvalidLots, InvalidSize
from tests.samples import HUGE, outcome, try_order, try_wrong


def all_lots(many):
    """All lots below many, of fewer numbers first, then ascending."""
    return [lot for length in range(many + 1) for lot in itertools.combinations(range(many), length)]


def slow_least(lots):
    own = {tuple(lot) for lot in lots}
    return tuple(sorted((lot for lot in own if not any(set(other) < set(lot) for other in own)),
                        key=lambda lot: (len(lot), lot)))


def slow_crossings(many, lots):
    return slow_least([lot for lot in all_lots(many) if all(set(lot) & set(other) for other in lots)])


class CrossingsTest(unittest.TestCase):
    def test_few_by_hand(self):
        self.assertEqual(least_lots(4, [[2, 3], (0,), (0, 1), [0]]), ((0,), (2, 3)))
        self.assertEqual(crossings(4, [(0, 1), (2,), (1, 2, 3)]), ((0, 2), (1, 2)))
        self.assertEqual(crossings(3, [(0, 1), (1, 2), (0, 2)]), ((0, 1), (0, 2), (1, 2)))

    def test_no_lots_and_the_empty_lot(self):
        for many in (0, 3, 12):
            self.assertEqual(crossings(many, []), ((),))
            self.assertEqual(crossings(many, [()]), ())
            self.assertEqual(least_lots(many, ()), ())
            self.assertEqual(least_lots(many, [[], ()]), ((),))
            self.assertTrue(are_crossings(many, [], [()]))
            self.assertTrue(are_crossings(many, [()], []))
            self.assertFalse(are_crossings(many, [], []))
            self.assertFalse(are_crossings(many, [()], [()]))
        self.assertEqual(crossings(4, [(0,), (), (2, 3)]), ())

    def test_all_as_counted_slowly(self):
        draw = random.Random(21)
        for many in range(6):
            lots = all_lots(many)
            for _ in range(60):
                some = [draw.choice(lots) for _ in range(draw.randrange(6))]
                self.assertEqual(least_lots(many, some), slow_least(some))
                self.assertEqual(crossings(many, some), slow_crossings(many, some))

    def test_order_is_by_length_then_ascending(self):
        self.assertEqual(least_lots(5, [(1, 2, 3), (0, 4), (3, 4), (0, 1)]), ((0, 1), (0, 4), (3, 4), (1, 2, 3)))
        self.assertEqual(crossings(5, [(0, 4), (1, 4), (2, 4)]), ((4,), (0, 1, 2)))

    def test_crossings_of_crossings_are_the_least_lots(self):
        draw = random.Random(22)
        for _ in range(25):
            some = [tuple(sorted(draw.sample(range(12), draw.randrange(1, 7)))) for _ in range(draw.randrange(25))]
            told = crossings(12, some)
            self.assertEqual(crossings(12, told), least_lots(12, some))
            self.assertTrue(are_crossings(12, least_lots(12, some), told))

    def test_are_crossings_in_any_order_each_once(self):
        lots, others = [(0, 1), (2,)], [(0, 2), (1, 2)]
        self.assertIs(are_crossings(3, lots, others), True)
        self.assertIs(are_crossings(3, lots[::-1], others[::-1]), True)
        self.assertIs(are_crossings(3, [[0, 1], [2]], ([0, 2], (1, 2))), True)
        self.assertIs(are_crossings(3, lots + [(2,)], others), False)
        self.assertIs(are_crossings(3, lots, others + [(0, 2)]), False)
        self.assertIs(are_crossings(3, lots + [(1, 2)], others), False)
        self.assertIs(are_crossings(3, lots, others + [(0, 1, 2)]), False)
        self.assertIs(are_crossings(3, lots, others[:1]), False)
        self.assertIs(are_crossings(3, lots[:1], others), False)

    def test_arguments_stay_and_kinds_do_not_matter(self):
        lots = [[0, 2], [1]]
        self.assertEqual(crossings(many=3, lots=lots), crossings(3, ((0, 2), (1,))))
        self.assertEqual(lots, [[0, 2], [1]])

    def test_wrong_numbers_and_lots(self):
        for many in (-1, 13, True, None, "3", HUGE, (3,)):
            for function in (least_lots, crossings):
                self.assertEqual(outcome(function, many, None), (InvalidSize, "many"))
            self.assertEqual(outcome(are_crossings, many, None, None), (InvalidSize, "many"))
        wrong = [(1, 0), (0, 0), (3,), (-1,), (True,), (HUGE,), "0", None, 0, ((0,),), ("0",)]
        for lot in wrong:
            for function in (least_lots, crossings):
                self.assertEqual(outcome(function, 3, [(0,), lot, lot]), (InvalidLots, 1), lot)
            self.assertEqual(outcome(are_crossings, 3, [(0,)], [(0,), (), lot]), (InvalidLots, 2), lot)
            self.assertEqual(outcome(are_crossings, 3, [lot], None), (InvalidLots, 0), lot)
        self.assertEqual(outcome(crossings, 0, [(0,)]), (InvalidLots, 0))
        for value in (None, 3, "01", True):
            self.assertEqual(outcome(least_lots, 3, value), (InvalidLots, -1))
            self.assertEqual(outcome(are_crossings, 3, [(0,)], value), (InvalidLots, -1))

    def test_any_values(self):
        for function in (least_lots, crossings):
            try_wrong(self, function, (3, ()), {0: InvalidSize, 1: InvalidLots})
        try_wrong(self, are_crossings, (3, (), ()), {0: InvalidSize, 1: InvalidLots, 2: InvalidLots})
        try_order(self, are_crossings, (3, (), ()), {
            0: (13, (InvalidSize, "many")), 1: ([None], (InvalidLots, 0)), 2: (None, (InvalidLots, -1))})


if __name__ == "__main__":
    unittest.main()
