"""[52], [53], [54]: rules that put rows for others, and keep quiet."""

import itertools
import random
import unittest

from leastpromise.errors import (
    InvalidFrame, InvalidLot, InvalidProgram, InvalidRows, InvalidSize, Refused)
from leastpromise.passes import (
    fewest_rows, greatest_lot, keeps_always, meaning_gap, put_instead, rule_holds, rule_paper)
from leastpromise.programs import unrolled
from leastpromise.runs import datum_behind, run_steps, step_atoms, trace_of
from tests.samples import (
    AND, ANY, HUGE, XOR, data_of, is_tupled, outcome, some_programs, try_judge, try_order, try_wrong)

FRAME = (2, 2, 0, (AND,), 1)
TWICE = (("op", 0, 0, 0, 0), ("op", 0, 0, 0, 0))
FRAMES = [FRAME, (2, 2, 0, (XOR,), 0), (2, 2, 0, (XOR,), 2), (2, 1, 2, (AND,), 1), (2, 1, 2, (XOR,), 1), (2, 1, 2, (), 1)]
LOTS = [(), (0,), (1,), (2, 4), (3,), (6,), (7,), (6, 7), (8,), (9,), (0, 1, 6, 7), (2, 4, 8), tuple(range(10))]


def plain_rows(frame, stores=True):
    registers = range(frame[1])
    rows = [("op",) + rest for rest in itertools.product(range(len(frame[3])), registers, registers, registers)]
    if frame[2]:
        rows += [("load",) + rest for rest in itertools.product(registers, registers)]
        if stores:
            rows += [("store",) + rest for rest in itertools.product(registers, registers)]
    return sorted(rows + [("fence",)]) if stores else rows


def left_by(frame, rows):
    return [datum_behind(frame, rows, datum) for datum in data_of(frame)]


def some_rules(frame, many, seed):
    """Rules of which both mean the same, of up to three rows, most of them not the same."""
    draw = random.Random(f"{seed} {frame}")
    meanings = {}
    for length in range(3):
        for rows in itertools.product(plain_rows(frame), repeat=length):
            meanings.setdefault(tuple(left_by(frame, rows)), []).append(rows)
    groups = [group for group in meanings.values() if len(group) > 1]
    rules = []
    for _ in range(many):
        rows, others = draw.sample(draw.choice(groups), 2)
        if draw.random() < 0.4:
            more = (draw.choice(plain_rows(frame)),)
            rows, others = (rows + more, others + more) if draw.random() < 0.5 else (more + rows, more + others)
        rules.append((rows, others))
    return rules


def one_trace(frame, program, one, other, lot):
    return trace_of(frame, program, one, lot) == trace_of(frame, program, other, lot)


def is_loud(frame, programs, one, other, lot):
    """Whether the data have one trace of the former program, and not of the latter."""
    return one_trace(frame, programs[0], one, other, lot) and not one_trace(frame, programs[1], one, other, lot)


def wrong_programs(rows, others, number, ahead, behind, one):
    told = []
    for way in (rows, others):
        sides = ((), ahead + way + behind) if one[number] == 0 else (ahead + way + behind, ())
        told.append((("fork", number) + sides,))
    return told


def slow_word(frame, rows, others, lot):
    """The paper's word, by all data, rows ahead and rows behind."""
    pairs = list(itertools.combinations(data_of(frame), 2))
    if any(is_loud(frame, (rows, others), one, other, lot) for one, other in pairs):
        return "right"
    wrong = plain_rows(frame, False)
    for one, other in pairs:
        for number in range(frame[1]):
            if (one[number] == 0) != (other[number] == 0):
                continue
            for many in range(frame[4]):
                for ahead in itertools.product(wrong, repeat=many):
                    for length in range(frame[4] - many + 1):
                        for behind in itertools.product(wrong, repeat=length):
                            programs = wrong_programs(rows, others, number, ahead, behind, one)
                            if is_loud(frame, programs, one, other, lot):
                                return "wrong"
    return "keeps"


def slow_lots(frame, lot):
    """What "keeps" tells: the pairs that so many wrong rows lead to, by all rows ahead."""
    told = []
    for many in range(frame[4]):
        found = set()
        for one, other in itertools.combinations(data_of(frame), 2):
            for number in range(frame[1]):
                if (one[number] == 0) != (other[number] == 0):
                    continue
                for ahead in itertools.product(plain_rows(frame, False), repeat=many):
                    program = wrong_programs(ahead, (), number, (), (), one)[0]
                    if one_trace(frame, program, one, other, lot):
                        pair = sorted([datum_behind(frame, ahead, datum) for datum in (one, other)])
                        if pair[0] != pair[1]:
                            found.add(tuple(pair))
        told.append(tuple(sorted(found)))
    return tuple(told)


class MeaningTest(unittest.TestCase):
    def test_gaps(self):
        draw = random.Random(52)
        gaps = 0
        for frame in FRAMES:
            rows = plain_rows(frame)
            for _ in range(40):
                one, other = [tuple(draw.choice(rows) for _ in range(draw.randrange(4))) for _ in range(2)]
                unlike = [datum for datum, near, far in zip(data_of(frame), left_by(frame, one), left_by(frame, other))
                          if near != far]
                self.assertEqual(meaning_gap(frame, one, other), min(unlike) if unlike else None)
                gaps += bool(unlike)
        self.assertGreater(gaps, 30)
        self.assertIsNone(meaning_gap(FRAME, TWICE, ()))
        self.assertIsNone(meaning_gap(FRAME, (), (("fence",),)))
        self.assertEqual(meaning_gap(FRAME, (), (("op", 0, 0, 0, 1),)), (1, 0))

    def test_wrong_rows(self):
        frame = (2, 1, 2, (AND,), 1)
        for value in (None, 0, "fence", [], [("fence",)], True, ["fence"]):
            self.assertEqual(outcome(meaning_gap, frame, value, None), (InvalidRows, -1), value)
            self.assertEqual(outcome(meaning_gap, frame, (), value), (InvalidRows, -1), value)
        for row in (
                None, "fence", ("fence", 0), ["fence"], (), ("op", 0, 0, 0), ("op", 1, 0, 0, 0), ("op", 0, 0, 0, 1),
                ("op", 0, 0, 0, True), ("op", 0, 0, 0, HUGE), ("fork", 0, (), ()), ("loop", 1, ()), ("load", 0, 1), ("load", 0),
                ("store", -1, 0), ["load", 0, 0]):
            self.assertEqual(outcome(meaning_gap, frame, (("fence",), row, None), None), (InvalidRows, 1), row)
            self.assertEqual(outcome(meaning_gap, frame, (), (("fence",), row, None)), (InvalidRows, 1), row)
        self.assertEqual(outcome(meaning_gap, FRAME, (("load", 0, 0),), ()), (InvalidRows, 0))
        try_wrong(self, meaning_gap, (frame, (), ()), {1: InvalidRows, 2: InvalidRows})
        try_order(self, meaning_gap, (frame, (), ()), {
            0: (None, (InvalidFrame, -1)), 1: ((0,), (InvalidRows, 0)), 2: ([], (InvalidRows, -1))})


class PutTest(unittest.TestCase):
    def test_by_hand(self):
        op, fence = TWICE[0], ("fence",)
        self.assertEqual(put_instead(FRAME, (), TWICE, ()), ())
        self.assertEqual(put_instead(FRAME, (op,) * 5, TWICE, (fence,)), (fence, fence, op))
        self.assertEqual(put_instead(FRAME, (op,) * 3, (op,), TWICE), (op,) * 6)
        self.assertEqual(put_instead(FRAME, (op, fence, op), TWICE, ()), (op, fence, op))
        # What is put is not looked at again, though rows stand on end there then.
        self.assertEqual(put_instead(FRAME, (op, op, op), TWICE, (op,)), (op, op))
        self.assertEqual(put_instead(FRAME, (("loop", 3, (op,)), ("loop", 0, TWICE)), TWICE, ()), (op,))
        self.assertEqual(
            put_instead(FRAME, (op, ("fork", 1, TWICE + (("fork", 0, (op,), (("loop", 2, (op,)),)),), (op, op, op)), op), TWICE, ()),
            (op, ("fork", 1, (("fork", 0, (op,), ()),), (op,)), op))

    def test_it_leaves_the_same(self):
        for frame in FRAMES:
            for rows, others in some_rules(frame, 6, 52):
                for program in some_programs(frame, 6, seed=rows):
                    if rows == ():
                        self.assertEqual(outcome(put_instead, frame, program, rows, others), (Refused, "rows"))
                        continue
                    put = put_instead(frame, program + (("loop", 2, rows),) + program, rows, others)
                    self.assertTrue(is_tupled(put))
                    self.assertEqual(put, unrolled(frame, put))
                    self.assertEqual(
                        left_by(frame, put), left_by(frame, program + rows + rows + program))

    def test_long_programs(self):
        program = (("loop", 4, (("loop", 4, (("loop", 2, TWICE + (("fence",),)),)),)),)
        self.assertEqual(put_instead(FRAME, program, TWICE, ()), (("fence",),) * 32)

    def test_any_values(self):
        good = (FRAME, (), TWICE, ())
        self.assertEqual(outcome(put_instead, FRAME, (), (), (("fence",),)), (Refused, "rows"))
        self.assertEqual(outcome(put_instead, FRAME, (), (), (("op", 0, 0, 0, 1),)), (Refused, "meaning"))
        self.assertEqual(outcome(put_instead, FRAME, [], (), (("op", 0, 0, 0, 1),)), (InvalidProgram, -1))
        try_order(self, put_instead, good, {
            0: (None, (InvalidFrame, -1)), 1: ((0,), (InvalidProgram, 0)), 2: ((0,), (InvalidRows, 0)),
            3: ([], (InvalidRows, -1))})
        for place, error in {1: InvalidProgram, 2: InvalidRows, 3: InvalidRows}.items():
            for value in ANY:
                told = outcome(put_instead, *good[:place], value, *good[place + 1:])
                self.assertIn(told[0], ("told", Refused, error), (place, value))


class RuleTest(unittest.TestCase):
    def test_the_printed_example(self):
        told = meaning_gap(FRAME, TWICE, ()), rule_paper(FRAME, TWICE, (), ())[0], rule_paper(FRAME, TWICE, (), (6,))[0]
        self.assertEqual(told, (None, "keeps", "wrong"))
        told = fewest_rows(FRAME, TWICE, (), 2), fewest_rows(FRAME, TWICE, (6,), 2), greatest_lot(FRAME, TWICE, (), (0, 1, 6))
        self.assertEqual(told, ((), (("fence",),), (0, 1)))

    def check(self, frame, rows, others, lot):
        paper = rule_paper(frame, rows, others, lot)
        self.assertTrue(is_tupled(paper))
        self.assertIs(rule_holds(frame, rows, others, lot, paper), True, (frame, rows, others, lot, paper))
        self.assertEqual(paper[0], slow_word(frame, rows, others, lot), (frame, rows, others, lot))
        if paper[0] == "keeps":
            self.assertEqual(paper, ("keeps", slow_lots(frame, lot)))
        elif paper[0] == "right":
            self.assertTrue(is_loud(frame, (rows, others), paper[1], paper[2], lot))
        else:
            _, number, ahead, behind, one, other = paper
            self.assertEqual(one[number] == 0, other[number] == 0)
            programs = wrong_programs(rows, others, number, ahead, behind, one)
            self.assertTrue(is_loud(frame, programs, one, other, lot))
        return paper[0]

    def test_against_all_rows_and_data(self):
        words = []
        for frame in FRAMES:
            draw = random.Random(f"53 {frame}")
            for rows, others in some_rules(frame, 6 if frame[4] == 2 else 14, 53):
                for lot in draw.sample(LOTS, 3 if frame[4] == 2 else 4):
                    words.append((self.check(frame, rows, others, lot), frame[4]))
        for word in (("keeps", 0), ("right", 0), ("keeps", 1), ("right", 1), ("wrong", 1), ("keeps", 2), ("wrong", 2)):
            self.assertGreater(words.count(word), 2, word)

    def test_deep_rules_by_hand(self):
        frame = (2, 2, 0, (XOR,), 2)
        clear, fence = ("op", 0, 1, 1, 1), ("fence",)
        # A fence behind cuts wrong ways; one less lets them read on.
        for rows, others in (((fence, clear), (clear, fence)), ((clear,), (clear, fence)), ((clear, fence), (clear,))):
            for lot in ((), (6,), (7,), (0,)):
                self.check(frame, rows, others, lot)
        self.assertEqual(rule_paper(frame, (fence,), (), (6,))[0], "wrong")
        self.assertEqual(rule_paper(frame, (), (fence,), (6,))[0], "keeps")
        for other, still in ((XOR, ("op", 0, 1, 1, 0)), (AND, ("op", 0, 1, 1, 1))):
            changed = frame[:3] + ((other,), 2)
            rows = (still, still) if other == XOR else (still,)
            for lot in ((), (6,), (7,), (6, 7)):
                self.check(changed, rows, (), lot)
                self.check(changed, (), rows, lot)
                self.check(changed, rows + (fence,), (fence,), lot)
        # Where a row less is put, wrong ways read one further, which may show the other register.
        for many, fewer, lot, word in ((2, 1, (6,), "wrong"), (1, 2, (6,), "keeps"), (2, 1, (0,), "keeps"), (3, 2, (6,), "keeps")):
            self.assertEqual(self.check(frame, (clear,) * many, (clear,) * fewer, lot), word)

    def test_rules_in_programs(self):
        seen = {"keeps": 0, "lost": 0}
        for frame in FRAMES:
            draw = random.Random(f"54 {frame}")
            for rows, others in some_rules(frame, 8, 54):
                if rows == ():
                    continue
                for lot in draw.sample(LOTS, 4):
                    keeps = rule_paper(frame, rows, others, lot)[0] == "keeps"
                    for program in some_programs(frame, 5, seed=lot):
                        where = draw.randrange(3)
                        program = (program + rows, rows + program, (("fork", 0, rows + program, program + rows),))[where]
                        put = put_instead(frame, program, rows, others)
                        for one, other in itertools.combinations(data_of(frame), 2):
                            lost = is_loud(frame, (program, put), one, other, lot)
                            self.assertFalse(keeps and lost, (frame, rows, others, lot, program, one, other))
                            seen["lost"] += lost
                            seen["keeps"] += keeps and one_trace(frame, program, one, other, lot)
        self.assertGreater(min(seen.values()), 20)

    def test_without_wrong_ways_and_behind_fences(self):
        for frame in FRAMES:
            for rows, others in some_rules(frame, 8, 55):
                for lot in LOTS[::3]:
                    dry = rule_paper(frame[:4] + (0,), rows, others, lot)
                    self.assertIn(dry[0], ("keeps", "right"))
                    fenced = rule_paper(frame, rows, (("fence",),) + others, lot)
                    self.assertEqual(fenced[0] == "right", dry[0] == "right")
                    self.assertIn(fenced[0], ("keeps", "right"))
                    if dry[0] == "keeps":
                        self.assertEqual(dry, ("keeps", ()))

    def test_any_values(self):
        op = (("op", 0, 0, 0, 1),)
        good = (FRAME, TWICE, (), ())
        wrong = {
            0: (None, (InvalidFrame, -1)), 1: ((0,), (InvalidRows, 0)), 2: ([], (InvalidRows, -1)),
            3: ([3, 3], (InvalidLot, 1))}
        for function, args in ((rule_paper, good), (greatest_lot, good), (rule_holds, good + (None,))):
            try_order(self, function, args, wrong)
            self.assertEqual(outcome(function, FRAME, (), op, *[None] * (len(args) - 3)), (Refused, "meaning"))
            self.assertEqual(outcome(function, FRAME, (), (0,), *[None] * (len(args) - 3)), (InvalidRows, 0))
            for place, error in {1: InvalidRows, 2: InvalidRows, 3: InvalidLot}.items():
                for value in ANY:
                    told = outcome(function, *args[:place], value, *args[place + 1:])
                    self.assertIn(told[0], ("told", Refused, error), (place, value))
        try_order(self, keeps_always, good[:3], {place: wrong[place] for place in range(3)})
        self.assertEqual(outcome(keeps_always, FRAME, (), op), (Refused, "meaning"))


class RuleJudgeTest(unittest.TestCase):
    def test_any_right_or_wrong_ones(self):
        for frame in FRAMES:
            draw = random.Random(f"56 {frame}")
            data, plain = data_of(frame), plain_rows(frame)
            for rows, others in some_rules(frame, 8, 56):
                for lot in draw.sample(LOTS, 3):
                    for _ in range(12):
                        one, other = draw.choice(data), draw.choice(data)
                        told = rule_holds(frame, rows, others, lot, ("right", one, other))
                        self.assertIs(told, is_loud(frame, (rows, others), one, other, lot))
                        number = draw.randrange(frame[1])
                        ahead, behind = [tuple(draw.choice(plain) for _ in range(draw.choice((0, 0, 1, 2)))) for _ in range(2)]
                        told = rule_holds(frame, rows, others, lot, ("wrong", number, ahead, behind, one, other))
                        programs = wrong_programs(rows, others, number, ahead, behind, one)
                        self.assertIs(told, one[number] == other[number] and is_loud(frame, programs, one, other, lot))

    def test_wrong_ones_beside_right_ones(self):
        # Rows that read a register less show less, as right rows and in wrong ways.
        frame = (2, 2, 0, (XOR,), 1)
        rows, others = (("fence",),), (("op", 0, 1, 1, 0), ("op", 0, 1, 1, 0))
        paper = rule_paper(frame, rows, others, (0, 6))
        self.assertEqual(paper[0], "right")
        self.assertIs(rule_holds(frame, rows, others, (0, 6), paper), True)
        wrong = ("wrong", 0, (), (), (0, 0), (0, 1))
        self.assertIs(rule_holds(frame, rows, others, (0, 6), wrong), True)
        self.assertIs(rule_holds(frame, rows, others, (0,), wrong), False)
        self.assertIs(rule_holds(frame, rows, others, (6,), ("right",) + wrong[4:]), False)
        self.assertIs(rule_holds(frame, rows, others, (6,), ("wrong", 1) + wrong[2:]), False)

    def slow_keeps(self, frame, rows, others, lot, lots):
        """Whether lots of pairs, told right, keep the rule."""
        wrong = plain_rows(frame, False)
        pairs = itertools.combinations(data_of(frame), 2)
        if any(is_loud(frame, (rows, others), one, other, lot) for one, other in pairs):
            return False
        wanted = {
            pair for pair in itertools.combinations(data_of(frame), 2)
            if any((pair[0][on] == 0) == (pair[1][on] == 0) for on in range(frame[1]))}
        for number, told in enumerate(lots):
            if not wanted <= set(told):
                return False
            left = frame[4] - number
            for one, other in told:
                for length in range(left + 1):
                    for behind in itertools.product(wrong, repeat=length):
                        shown = [[self.shown(frame, way + behind, datum, lot, left) for datum in (one, other)]
                                 for way in (rows, others)]
                        if shown[0][0] == shown[0][1] and shown[1][0] != shown[1][1]:
                            return False
            wanted = set()
            for one, other in told:
                for row in wrong:
                    if self.shown(frame, (row,), one, lot, 1) == self.shown(frame, (row,), other, lot, 1):
                        pair = tuple(sorted(datum_behind(frame, (row,), datum) for datum in (one, other)))
                        wanted |= {pair} if pair[0] != pair[1] else set()
        return True

    def shown(self, frame, rows, datum, lot, left):
        """What a wrong way of so many rows shows of a datum: a fork's that goes the other side of these rows."""
        sides = ((), rows) if datum[0] == 0 else (rows, ())
        step = run_steps(frame[:4] + (left,), (("fork", 0) + sides,), datum)[0]
        return [step_atoms(step)[atom] for atom in lot]

    def test_any_lots_that_keep(self):
        seen = []
        for frame in FRAMES[1:]:
            draw = random.Random(f"57 {frame}")
            every = tuple(itertools.combinations(data_of(frame), 2))
            for rows, others in some_rules(frame, 2 if frame[4] == 2 else 6, 57):
                for lot in draw.sample(LOTS, 3):
                    paper = rule_paper(frame, rows, others, lot)
                    lots = slow_lots(frame, lot)
                    tries = [lots, (every,) * frame[4], tuple(told[1:] for told in lots), lots[:-1], lots + (every,)]
                    for _ in range(3):
                        tries.append(tuple(tuple(sorted(set(told) | set(draw.sample(every, 1)))) for told in lots))
                        tries.append(tuple(tuple(draw.sample(told, max(0, len(told) - 1))) for told in lots))
                    for told in tries:
                        right = len(told) == frame[4] and all(list(part) == sorted(set(part)) for part in told)
                        expected = right and self.slow_keeps(frame, rows, others, lot, told)
                        self.assertIs(rule_holds(frame, rows, others, lot, ("keeps", told)), expected, (rows, others, lot, told))
                        seen.append(expected)
                    self.assertIs(rule_holds(frame, rows, others, lot, ("keeps", lots)), paper[0] == "keeps")
        self.assertGreater(min(seen.count(True), seen.count(False)), 30)

    def test_lots_of_wrong_pairs(self):
        frame = (2, 2, 0, (XOR,), 1)
        fence = ("fence",)
        pairs = slow_lots(frame, (6,))[0]
        judge = lambda told: rule_holds(frame, (fence, fence), (fence,), (6,), ("keeps", (told,)))
        self.assertIs(judge(pairs), True)
        for more, expected in (
                (((0, 0), (1, 1)), True), (((0, 0), (0, 0)), False), (((1, 1), (0, 0)), False), (((0, 1), (0, 0)), False),
                (pairs[0], False)):
            self.assertIs(judge(tuple(sorted(pairs + (more,)))), expected, more)
        self.assertIs(judge(pairs[::-1]), False)
        self.assertIs(judge(pairs[1:] + pairs[:1]), False)

    def test_other_words(self):
        frame = (2, 2, 0, (XOR,), 1)
        op = ("op", 0, 1, 1, 0)
        args = (frame, (("fence",),), (op, op), (0, 6))
        right, wrong = ("right", (0, 0), (0, 1)), ("wrong", 0, (), (), (0, 0), (0, 1))
        self.assertIs(rule_holds(*args, right), True)
        self.assertIs(rule_holds(*args, wrong), True)
        for word in ("wrong", "keeps", "", None, 0, "rights"):
            self.assertIs(rule_holds(*args, (word,) + right[1:]), False, word)
        for word in ("right", "keeps", "", None, 0):
            self.assertIs(rule_holds(*args, (word,) + wrong[1:]), False, word)

    def test_deep_wrong_ways_with_cells(self):
        # Stores end wrong ways: neither they nor what they leave is come to there.
        frame = (2, 1, 2, (AND,), 2)
        op, store, fence = ("op", 0, 0, 0, 0), ("store", 0, 0), ("fence",)
        for rows, others in (((op,), ()), ((fence,), ()), ((), (fence,)), ((store, store), (store,)), ((fence, op), (op, op))):
            for lot in ((), (6,), (8,), (9,), (6, 9)):
                paper = rule_paper(frame, rows, others, lot)
                self.assertEqual(paper[0], slow_word(frame, rows, others, lot))
                self.assertIs(rule_holds(frame, rows, others, lot, paper), True)
                if paper[0] == "keeps":
                    self.assertEqual(paper[1], slow_lots(frame, lot))

    def test_changed_papers(self):
        frame = (2, 2, 0, (XOR,), 1)
        fence, op = ("fence",), ("op", 0, 1, 1, 0)
        for rows, others, lot, word in (
                ((fence,), (op, op), (0, 6), "right"), ((fence,), (op, op), (6,), "wrong"), ((fence,), (op, op), (), "keeps"),
                ((op, op), (), (6,), "wrong"), ((op, op), (), (0,), "keeps"), ((fence,), (), (6,), "wrong")):
            paper = rule_paper(frame, rows, others, lot)
            self.assertEqual(paper[0], word)
            try_judge(self, lambda value: rule_holds(frame, rows, others, lot, value), paper)
        dry = frame[:4] + (0,)
        self.assertEqual(rule_paper(dry, (fence,), (op, op), ()), ("keeps", ()))
        try_judge(self, lambda value: rule_holds(dry, (fence,), (op, op), (), value), ("keeps", ()), lambda value: (
            value == ("keeps", ())))


class FewestTest(unittest.TestCase):
    def test_greatest_lots(self):
        seen = set()
        for frame in FRAMES:
            draw = random.Random(f"58 {frame}")
            for rows, others in some_rules(frame, 8, 58):
                single = [atom for atom in range(10) if rule_paper(frame, rows, others, (atom,))[0] == "keeps"]
                self.assertIs(keeps_always(frame, rows, others), len(single) == 10)
                self.assertEqual(rule_paper(frame, rows, others, ())[0], "keeps")
                for lot in draw.sample(LOTS, 4):
                    told = greatest_lot(frame, rows, others, lot)
                    self.assertEqual(told, greatest_lot(frame, rows, others, list(lot)))
                    self.assertEqual(rule_paper(frame, rows, others, told)[0], "keeps")
                    parts = [part for many in range(len(lot) + 1) for part in itertools.combinations(lot, many)]
                    if len(lot) < 5:
                        for part in parts:
                            if rule_paper(frame, rows, others, part)[0] == "keeps":
                                self.assertTrue(set(part) <= set(told))
                    self.assertTrue({atom for atom in lot if atom in single} <= set(told))
                    seen.add((told == lot, told == ()))
        self.assertEqual(len(seen), 4)

    def test_always_is_by_all_lots(self):
        frame = (2, 1, 2, (AND,), 1)
        for rows, others in some_rules(frame, 10, 59):
            if keeps_always(frame, rows, others):
                for lot in LOTS:
                    self.assertEqual(rule_paper(frame, rows, others, lot)[0], "keeps")

    def test_fewest(self):
        nones = 0
        for frame in FRAMES:
            draw = random.Random(f"60 {frame}")
            plain = plain_rows(frame)
            for _ in range(4):
                rows = tuple(draw.choice(plain) for _ in range(draw.randrange(4)))
                for lot in draw.sample(LOTS, 3):
                    expected = None
                    for length in range(3 if frame[1] == 1 else 2):
                        good = [
                            others for others in itertools.product(plain, repeat=length)
                            if left_by(frame, rows) == left_by(frame, others)
                            and rule_paper(frame, rows, others, lot)[0] == "keeps"]
                        if good and expected is None:
                            expected = min(good)
                        told = fewest_rows(frame, rows, lot, length)
                        self.assertEqual(told, expected, (frame, rows, lot, length))
                        nones += told is None
        self.assertGreater(nones, 10)

    def test_up_to_three(self):
        rows = (("op", 0, 0, 0, 1), ("op", 0, 0, 0, 0), ("fence",))
        self.assertEqual(fewest_rows(FRAME, rows, (), 3), (("op", 0, 0, 0, 1),))
        self.assertEqual(fewest_rows(FRAME, (), (6,), 0), ())
        self.assertEqual(fewest_rows(FRAME, (("fence",),), (6,), 0), None)
        self.assertEqual(fewest_rows(FRAME, (("fence",),), (6,), 1), (("fence",),))

    def test_any_values(self):
        good = (FRAME, TWICE, (6,), 2)
        try_wrong(self, fewest_rows, (FRAME, TWICE, (6,), 1), {1: InvalidRows, 2: InvalidLot, 3: InvalidSize})
        try_order(self, fewest_rows, good, {
            0: (None, (InvalidFrame, -1)), 1: ((0,), (InvalidRows, 0)), 2: ([3, 3], (InvalidLot, 1)),
            3: (4, (InvalidSize, "most"))})
        for value in (4, 9, -1, HUGE, True, None, "1", (1,), []):
            self.assertEqual(outcome(fewest_rows, *good[:3], value), (InvalidSize, "most"), value)


if __name__ == "__main__":
    unittest.main()
