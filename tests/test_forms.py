"""[5], [6]: tables, sheets, lines."""

import itertools
import random
import unittest

from leastpromise.errors import InvalidLines, InvalidSheet, InvalidSize, InvalidTable, Refused
from leastpromise.forms import lines_sheet, need_size, need_table, sheet_lines, wide_lines
from tests.samples import ANY, HUGE, outcome, try_order, try_wrong


def places(size, single):
    values = (None,) + tuple(range(size))
    return [pair for pair in itertools.product(values, values) if single or None in pair]


def fewest_painted(size, things, single):
    """For each sheet of these things how many lines tell it at the least, by painting all."""
    cells = list(itertools.product(range(size), range(size)))
    lines = [(pair, thing) for pair in places(size, single) for thing in things]
    level, fewest, many = [(None,) * len(cells)], {(None,) * len(cells): 0}, 0
    while level:
        many += 1
        later = []
        for sheet in level:
            for (one, other), thing in lines:
                told = tuple(
                    thing if one in (None, cell[0]) and other in (None, cell[1]) else old
                    for cell, old in zip(cells, sheet))
                if told not in fewest:
                    fewest[told] = many
                    later.append(told)
        level = later
    return fewest


def strikes_out(draw, size, sheet):
    """Whether striking rows, columns or all, drawn by lot, leaves nothing."""
    left = {cell: sheet[cell[0] * size + cell[1]] for cell in itertools.product(range(size), range(size))}
    while left:
        can = []
        for one, other in places(size, False):
            met = [cell for cell in left if one in (None, cell[0]) and other in (None, cell[1])]
            if met and len({left[cell] for cell in met}) == 1:
                can.append(met)
        if not can:
            return False
        for cell in draw.choice(can):
            del left[cell]
    return True


class FormsTest(unittest.TestCase):
    def test_sizes(self):
        for value in ANY:
            expected = ("told", value) if value in (2, 3) and not isinstance(value, bool) else (InvalidSize, "size")
            self.assertEqual(outcome(need_size, value), expected)

    def test_tables(self):
        self.assertEqual(need_table(2, [0, 1, 1, 0]), (0, 1, 1, 0))
        self.assertEqual(need_table(3, (0, 1, 2) * 3), (0, 1, 2) * 3)
        for value in (None, 4, "0110", (0, 1, 1), (0,) * 5, [], True):
            self.assertEqual(outcome(need_table, 2, value), (InvalidTable, -1))
        for wrong in (2, -1, True, None, "0", (0,), HUGE):
            self.assertEqual(outcome(need_table, 2, [0, 1, wrong, wrong]), (InvalidTable, 2))
        self.assertEqual(outcome(need_table, 3, (0, 1, 2) * 2 + (0, 1, 3)), (InvalidTable, 8))
        self.assertEqual(outcome(need_table, 4, None), (InvalidSize, "size"))

    def test_lines_tell_a_sheet(self):
        self.assertEqual(lines_sheet(2, [(None, None, 5), (1, None, [1, 2]), [None, 1, ()]]), (5, (), (1, 2), ()))
        self.assertEqual(lines_sheet(3, [[None, None, 0], [1, 2, 7]]), (0, 0, 0, 0, 0, 7, 0, 0, 0))
        self.assertEqual(lines_sheet(2, [(0, 0, 1), (None, None, HUGE)]), (HUGE,) * 4)

    def test_cells_that_no_line_meets(self):
        self.assertEqual(outcome(lines_sheet, 2, []), (Refused, 0))
        self.assertEqual(outcome(lines_sheet, 2, [(0, None, 1)]), (Refused, 2))
        self.assertEqual(outcome(lines_sheet, 3, [(0, None, 1), (None, 0, 1), (1, 1, 1)]), (Refused, 5))

    def test_wrong_lines(self):
        wrong = [
            None, 0, "", (), (0, 0), (0, 0, 0, 0), (2, 0, 0), (0, 2, 0), (-1, 0, 0), (True, 0, 0), (0, False, 0),
            ("0", 0, 0), (0, 0, -1), (0, 0, None), (0, 0, True), (0, 0, "1"), (0, 0, (1, -1)), (0, 0, [True]),
            (0, 0, ((1,),))]
        for line in wrong:
            self.assertEqual(outcome(lines_sheet, 2, [(0, 0, 0), line, None]), (InvalidLines, 1), line)
        for value in (None, 0, "ab", False):
            self.assertEqual(outcome(lines_sheet, 2, value), (InvalidLines, -1))

    def test_wrong_sheets(self):
        for function in (sheet_lines, wide_lines):
            for value in (None, 0, "abcd", (0,) * 3, [0] * 5, True):
                self.assertEqual(outcome(function, 2, value), (InvalidSheet, -1))
            for wrong in (-1, True, None, "0", (-1,), (0, True), [None], ((),)):
                self.assertEqual(outcome(function, 2, [0, 1, wrong, -1]), (InvalidSheet, 2))

    def test_fewest_lines_of_all_small_sheets(self):
        for size, things in ((2, (0, 1, 2, 3)), (3, (0, 1))):
            fewest = fewest_painted(size, things, True)
            for sheet in itertools.product(things, repeat=size * size):
                lines = sheet_lines(size, sheet)
                self.assertEqual(lines_sheet(size, lines), sheet)
                self.assertEqual(len(lines), fewest[sheet], sheet)

    def test_wide_lines_of_all_small_sheets(self):
        for size, things in ((2, (0, 1, 2, 3)), (3, (0, 1))):
            fewest = fewest_painted(size, things, False)
            for sheet in itertools.product(things, repeat=size * size):
                lines = wide_lines(size, sheet)
                self.assertEqual(lines is not None, sheet in fewest, sheet)
                if lines is not None:
                    self.assertEqual(lines_sheet(size, lines), sheet)
                    self.assertTrue(all(one is None or other is None for one, other, _ in lines))

    def test_wide_lines_are_there_just_if_all_is_struck_in_any_order(self):
        draw = random.Random(6)
        for _ in range(150):
            size = draw.choice((2, 3))
            sheet = [draw.randrange(draw.choice((2, 3))) for _ in range(size * size)]
            told = wide_lines(size, sheet) is not None
            for _ in range(4):
                self.assertEqual(strikes_out(draw, size, sheet), told)

    def test_a_sheet_without_wide_lines(self):
        self.assertIsNone(wide_lines(2, (0, 1, 1, 0)))
        self.assertIsNone(wide_lines(3, (0, 1, 1, 1, 0, 1, 1, 1, 0)))
        self.assertEqual(len(sheet_lines(2, (0, 1, 1, 0))), 3)
        self.assertEqual(sheet_lines(2, [[1], (1,), [1], [1]]), ((None, None, (1,)),))
        self.assertEqual(len(sheet_lines(2, [1, (1,), 1, (1,)])), 2)

    def test_many_things_and_lists(self):
        draw = random.Random(5)
        for _ in range(60):
            size = draw.choice((2, 3))
            sheet = [draw.choice((7, HUGE, [1, 2], (1, 2), [], [HUGE])) for _ in range(size * size)]
            kept = list(sheet)
            told = tuple(tuple(thing) if isinstance(thing, list) else thing for thing in sheet)
            self.assertEqual(lines_sheet(size, sheet_lines(size, sheet)), told)
            self.assertEqual(sheet_lines(size, sheet), sheet_lines(size, told))
            self.assertEqual(wide_lines(size=size, sheet=sheet), wide_lines(size, told))
            self.assertEqual(sheet, kept)

    def test_any_values(self):
        try_wrong(self, need_table, (2, (0, 1, 1, 0)), {1: InvalidTable})
        for value in ANY:
            self.assertIn(outcome(lines_sheet, 2, value)[0], ("told", InvalidLines, Refused))
            self.assertIn(outcome(sheet_lines, 2, value)[0], ("told", InvalidSheet))
            self.assertIn(outcome(wide_lines, 2, value)[0], ("told", InvalidSheet))
        for function in (need_table, lines_sheet, sheet_lines, wide_lines):
            for value in (1, 4, True, None, "2", HUGE, (2,), -2):
                self.assertEqual(outcome(function, value, None), (InvalidSize, "size"))
        try_order(self, lines_sheet, (2, [(None, None, 0)]), {
            0: (0, (InvalidSize, "size")), 1: ([0], (InvalidLines, 0))})


if __name__ == "__main__":
    unittest.main()
