"""[55]: which tables choose."""

import itertools
import random
import unittest

from leastpromise.choosing import choosing_holds, choosing_paper
from leastpromise.errors import InvalidTable
from tests.samples import ANY, AND, HUGE, SUM3, XOR, is_tupled, outcome, try_order, try_wrong

TABLES = list(itertools.product((0, 1), repeat=4))
EVEN = tuple(row for row in itertools.product((0, 1), repeat=4) if sum(row) % 2 == 0)
FOUR = (((0, 0), (0, 1), (1, 1)), ((0, 0), (0, 1), (1, 0)), ((0, 1), (1, 0), (1, 1)), EVEN)
NOR = (1, 0, 0, 0)


def keeps(table, rows):
    return all(
        tuple(table[one * 2 + other] for one, other in zip(row, second)) in rows for row in rows for second in rows)


def does_choose(tables, steps):
    for three in itertools.product((0, 1), repeat=3):
        values = list(three)
        for table, one, other in steps:
            values.append(tables[table][values[one] * 2 + values[other]])
        if values[-1] != (three[2] if three[0] else three[1]):
            return False
    return len(steps) > 0


class ChoosingTest(unittest.TestCase):
    def test_the_printed_example(self):
        self.assertEqual(
            [choosing_paper([table])[0] for table in ((1, 1, 1, 0), (0, 0, 0, 1), (0, 1, 1, 0), (0, 0, 1, 0))],
            ["way", "kept", "kept", "kept"])

    def check(self, tables):
        paper = choosing_paper(tables)
        self.assertTrue(is_tupled(paper))
        self.assertIs(choosing_holds(tables, paper), True)
        kept = any(all(keeps(table, rows) for table in tables) for rows in FOUR)
        self.assertEqual(paper[0], "kept" if kept else "way", tables)
        if kept:
            _, rows, three = paper
            self.assertEqual(rows, tuple(sorted(set(rows))))
            self.assertTrue(all(keeps(table, rows) for table in tables))
            self.assertTrue(all(row in rows for row in three))
            made = tuple(other if first else one for first, one, other in zip(*three))
            self.assertNotIn(made, rows)
        else:
            self.assertTrue(does_choose(tables, paper[1]))

    def test_all_of_up_to_two_tables(self):
        self.check([])
        for table in TABLES:
            self.check([table])
        for one, other in itertools.product(TABLES, TABLES):
            self.check((one, other))

    def test_some_of_up_to_five_tables(self):
        draw = random.Random(55)
        for _ in range(60):
            self.check([draw.choice(TABLES) for _ in range(draw.randrange(3, 6))])

    def test_four_lots_of_rows_show_that_none_choose(self):
        threes = (((0, 1), (1, 1), (0, 0)), ((0, 1), (1, 0), (0, 1)), ((0, 1), (0, 1), (1, 0)),
                  ((0, 0, 1, 1), (0, 1, 0, 1), (0, 0, 0, 0)))
        for rows, three in zip(FOUR, threes):
            tables = [table for table in TABLES if keeps(table, rows)]
            self.assertTrue(tables)
            self.assertIs(choosing_holds(tables, ("kept", rows, three)), True)
            for table in TABLES:
                if table not in tables:
                    self.assertIs(choosing_holds([table], ("kept", rows, three)), False)

    def test_any_way_holds_that_chooses(self):
        # Not (a or b) alone: or of (not x0 and x1), (x0 and x2), with values asked twice and one not needed.
        steps = ((0, 0, 0), (0, 1, 1), (0, 2, 2), (0, 0, 4), (0, 3, 5), (0, 6, 7), (0, 8, 8))
        self.assertTrue(does_choose([NOR], steps))
        self.assertIs(choosing_holds([NOR], ("way", steps)), True)
        self.assertIs(choosing_holds([NOR], ("way", steps[:-1])), False)
        self.assertIs(choosing_holds([NOR], ("way", steps + ((0, 0, 0),))), False)
        self.assertIs(choosing_holds([AND, NOR], ("way", steps)), False)
        self.assertIs(choosing_holds([NOR], ("way", ())), False)

    def test_changed_ways(self):
        way = choosing_paper([NOR])[1]
        for at, step in enumerate(way):
            for wrong in (
                    list(step), step[:2], step + (0,), (1,) + step[1:], (True,) + step[1:], (False,) + step[1:],
                    (0, 3 + at, step[2]), (0, step[1], 3 + at), (0, -1, step[2]), (0, HUGE, 0), (0, None, 0), None):
                self.assertIs(choosing_holds([NOR], ("way", way[:at] + (wrong,) + way[at + 1:])), False, wrong)
        self.assertIs(choosing_holds([NOR], ["way", way]), False)
        self.assertIs(choosing_holds([NOR], ("way", list(way))), False)
        self.assertIs(choosing_holds([NOR], ("way", way, ())), False)
        self.assertIs(choosing_holds([NOR], ("kept", way)), False)

    def test_changed_papers_of_rows(self):
        rows, three = FOUR[0], ((0, 1), (1, 1), (0, 0))
        wrong = [
            (rows[::-1], three), (rows + rows[-1:], three), (rows[:2], three), (rows[1:], three), (list(rows), three),
            (rows, list(three)), (rows, three[:2]), (rows, three + three[:1]), (rows, ((0, 1), (0, 0), (1, 1))),
            (rows, ((1, 0), (1, 1), (0, 0))), (((0, 0), (0, 1), (1, True)), three), (rows, ((0, True), (1, 1), (0, 0))),
            (((0, 0), [0, 1], (1, 1)), three), (rows, ([0, 1], (1, 1), (0, 0))), (((0,), (0, 1), (1, 1)), three),
            (((0, 0), (0, 1), (1, 2)), three), ((), three), ((), ()), (rows, None), (None, three), (((),), ((), (), ())),
            (FOUR[1], three), ((0, 1), three), ((None,), three), (("a", "b"), three), (((0, 0), 0, (1, 1)), three)]
        for word in ("way", "lot", "closed", None, 0, ("kept",)):
            self.assertIs(choosing_holds([AND], (word, rows, three)), False, word)
        self.assertIs(choosing_holds([AND], ("kept", rows, three)), True)
        for own, others in wrong:
            self.assertIs(choosing_holds([AND], ("kept", own, others)), False, (own, others))

    def test_a_paper_of_all_rows_of_eight_is_judged(self):
        rows = tuple(itertools.product((0, 1), repeat=8))
        self.assertIs(choosing_holds(TABLES[:5], ("kept", rows, rows[1:4])), False)
        even = tuple(row for row in rows if sum(row) % 2 == 0)
        three = ((0, 0, 1, 1) + (0,) * 4, (0, 1, 0, 1) + (0,) * 4, (0,) * 8)
        self.assertIs(choosing_holds([XOR], ("kept", even, three)), True)
        self.assertIs(choosing_holds([AND], ("kept", even, three)), False)

    def test_wrong_tables(self):
        for table in (None, 0, "0110", [0, 1, 1, 0], (0, 1, 1), (0, 1, 1, 2), (0, 1, 1, True), SUM3, (0, 1, 1, HUGE), (XOR,)):
            self.assertEqual(outcome(choosing_paper, [XOR, table, None]), (InvalidTable, 1), table)
            self.assertEqual(outcome(choosing_holds, [XOR, table, None], None), (InvalidTable, 1), table)
        for value in (None, 0, "", True):
            self.assertEqual(outcome(choosing_paper, value), (InvalidTable, -1))
            self.assertEqual(outcome(choosing_holds, value, None), (InvalidTable, -1))

    def test_any_values(self):
        try_wrong(self, choosing_paper, ((XOR,),), {0: InvalidTable})
        try_order(self, choosing_holds, ((XOR,), None), {0: ([None], (InvalidTable, 0))})
        for value in ANY:
            for tables in ([], [XOR], [NOR, AND]):
                self.assertIs(choosing_holds(tables, value), False, value)
        self.assertEqual(choosing_paper(tables=[NOR, AND]), choosing_paper((NOR, AND)))


if __name__ == "__main__":
    unittest.main()
