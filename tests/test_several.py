"""[58], [59], [60]: promises kept for ever, secrets told together, shares."""

import collections
import itertools
import random
import unittest

from leastpromise.bargain import loudest
from leastpromise.court import is_kept
from leastpromise.crossings import crossings
from leastpromise.errors import (
    InvalidDatum, InvalidFrame, InvalidLot, InvalidProcessor, InvalidProgram, InvalidSize)
from leastpromise.events import frame_events, need_processor, read_step, view_from, view_of
from leastpromise.programs import need_frame, unrolled
from leastpromise.runs import trace_of
from leastpromise.several import (
    asks_hold, asks_paper, ever_holds, ever_paper, is_kept_ever, late_processor, secret_classes, shares_hold,
    shares_paper,
    sum_deals, telling_inputs)
from tests.samples import (
    AND, ANY, HUGE, SUM3, XOR, data_of, is_tupled, kind_processor, outcome, quiet_processor, some_programs, try_judge,
    try_order, try_wrong, with_part)
from tests.slow import SlowCourt, slow_agree

SMALL = (2, 1, 0, (), 0)
UP = ((0,), (((1, 0), (1, 0), (2, 0)),))
FRAMES = [(2, 1, 0, (AND,), 1), (2, 2, 0, (XOR,), 1), (2, 2, 0, (AND,), 0), (2, 1, 2, (AND,), 1), (2, 1, 2, (), 0)]
LOTS = [(), (0,), (1,), (0, 1), (2, 4), (6,), (0, 6, 7), (0, 1, 2, 3, 4, 5), (1, 2, 4, 6, 8), tuple(range(10))]


def processors(frame, many, seed=0):
    draw = random.Random(f"{seed} {frame}")
    events = frame_events(frame)
    for _ in range(many):
        yield kind_processor(draw, events, draw.randrange(1, 4), 0.3)
        yield quiet_processor(draw, len(events), draw.randrange(1, 4), 0.05)


class SlowEver:
    """Pairs of states, by all flat rows on all two data."""

    def __init__(self, frame, processor, lot):
        self.frame, self.processor = frame, processor
        self.steps = set()
        for passes in SlowCourt(frame, processor, lot).passes.values():
            for one, other in itertools.product(passes, repeat=2):
                if slow_agree(passes[one][0], passes[other][0], lot):
                    self.steps.add((passes[one][0], passes[other][0]))

    def behind(self, pair):
        """(whether beats are alike, the pair of states behind)."""
        for one, other in self.steps:
            beats, later = read_step(self.frame, self.processor, pair[0], one)
            more, last = read_step(self.frame, self.processor, pair[1], other)
            yield beats == more, (later, last)

    def least(self):
        known, waiting = {(0, 0)}, [(0, 0)]
        while waiting:
            for alike, pair in self.behind(waiting.pop()):
                if not alike:
                    return "told"
                if pair not in known:
                    known.add(pair)
                    waiting.append(pair)
        return "kept", tuple(sorted(known))

    def is_closed(self, pairs):
        return (0, 0) in pairs and all(alike and later in pairs for pair in pairs for alike, later in self.behind(pair))


def are_told(frame, processor, lot, runs):
    states, alike = [0, 0], True
    for program, one, other in runs:
        if not alike or trace_of(frame, program, one, lot) != trace_of(frame, program, other, lot):
            return False
        told = [view_from(frame, processor, state, program, datum) for state, datum in zip(states, (one, other))]
        states, alike = [state for _, state in told], told[0][0] == told[1][0]
    return not alike


class EverTest(unittest.TestCase):
    def test_against_all_rows(self):
        words, late = [], 0
        for frame in FRAMES:
            draw = random.Random(f"58 {frame}")
            for processor in processors(frame, 4):
                for lot in draw.sample(LOTS, 4):
                    paper, told = ever_paper(frame, processor, lot), SlowEver(frame, processor, lot).least()
                    self.assertTrue(is_tupled(paper))
                    self.assertIs(ever_holds(frame, processor, lot, paper), True)
                    self.assertIs(is_kept_ever(frame, processor, list(lot)), told != "told")
                    if told == "told":
                        self.assertEqual(paper[0], "told")
                        self.assertTrue(are_told(frame, processor, lot, paper[1]))
                        self.assertTrue(all(len(unrolled(frame, run[0])) <= 200 for run in paper[1]))
                        late += is_kept(frame, processor, lot)
                    else:
                        self.assertEqual(paper, told)
                        self.assertTrue(is_kept(frame, processor, lot))
                    words.append(paper[0])
        self.assertGreater(min(words.count("kept"), words.count("told")), 15)
        self.assertGreater(late, 0)

    def test_kept_for_ever_in_rows_of_runs(self):
        draw = random.Random(59)
        for frame in FRAMES[:4]:
            for processor in processors(frame, 3, seed=1):
                for lot in LOTS[:-1]:
                    if not is_kept_ever(frame, processor, lot):
                        continue
                    states = [0, 0]
                    for program in some_programs(frame, 8, seed=2):
                        one, other = draw.choice(data_of(frame)), draw.choice(data_of(frame))
                        if trace_of(frame, program, one, lot) == trace_of(frame, program, other, lot):
                            told = [view_from(frame, processor, state, program, datum) for state, datum in zip(states,
                                (one, other))]
                            self.assertEqual(told[0][0], told[1][0])
                            states = [state for _, state in told]

    def test_all_pairs_of_states(self):
        for frame in FRAMES[:3]:
            for processor in processors(frame, 2, seed=3):
                for lot in ((0, 1, 6, 7), (6,), (0, 7)):
                    slow = SlowEver(frame, processor, lot)
                    pairs = list(itertools.product(range(len(processor[0])), repeat=2))
                    draw = random.Random(4)
                    for _ in range(25):
                        some = tuple(sorted(draw.sample(pairs, draw.randrange(1, len(pairs) + 1))))
                        self.assertIs(ever_holds(frame, processor, lot, ("kept", some)), slow.is_closed(some))
                    self.assertIs(ever_holds(frame, processor, lot, ("kept", tuple(pairs))), slow.is_closed(pairs))

    def test_both_orders_of_a_pair(self):
        # Behind an operation the state hangs on a value that is not told: pairs of both orders are come to.
        frame = (2, 1, 0, (AND,), 0)
        row = tuple((1, event[2]) if event[0] == "op" else (1, 0) for event in frame_events(frame))
        processor = ((0, 0), (row, row))
        pairs = ((0, 0), (0, 1), (1, 0), (1, 1))
        self.assertEqual(ever_paper(frame, processor, ()), ("kept", pairs))
        self.assertEqual(ever_paper(frame, processor, (0,)), ("kept", ((0, 0), (1, 1))))
        self.assertIs(ever_holds(frame, processor, (0,), ("kept", pairs)), True)
        self.assertIs(ever_holds(frame, processor, (), ("kept", ((0, 0), (0, 1), (1, 1)))), False)
        self.assertIs(ever_holds(frame, processor, (), ("kept", pairs[::-1])), False)

    def test_changed_papers(self):
        frame = (2, 1, 0, (AND,), 1)
        quiet = ((3, 3), (((1, 1),) * 11, ((1, 0),) * 11))
        slow = SlowEver(frame, quiet, ())

        def expected(value):
            if not isinstance(value, tuple) or len(value) != 2 or value[0] != "kept" or not isinstance(value[1], tuple):
                return False
            right = list(itertools.product((0, 1), repeat=2))
            if not all(pair in right for pair in value[1]):
                return False
            return list(value[1]) == sorted(set(value[1])) and slow.is_closed(value[1])

        try_judge(self, lambda value: ever_holds(frame, quiet, (), value), ever_paper(frame, quiet, ()), expected)
        frame, processor, lot = late_processor()
        paper = ever_paper(frame, processor, lot)
        self.assertEqual(len(paper[1]), 2)
        try_judge(self, lambda value: ever_holds(frame, processor, lot, value), paper)

    def test_told_runs(self):
        frame, processor, lot = late_processor()
        _, (first, last) = ever_paper(frame, processor, lot)
        judge = lambda *runs: ever_holds(frame, processor, lot, ("told", runs))
        fence = ((("fence",),), (0,), (1,))
        self.assertIs(judge(first, last), True)
        self.assertIs(judge(first, fence, last), True)
        self.assertIs(judge(*[fence] * 30, first, *[fence] * 30, last), True)
        self.assertIs(judge(((), (0,), (1,)), first, last), True)
        for runs in ((), (first,), (last,), (last, first), (first, last, fence), (first, last, last), (first, fence)):
            self.assertIs(judge(*runs), False, runs)
        self.assertIs(judge((first[0] + last[0], (0,), (1,))), False)
        self.assertIs(judge(((("loop", 1, first[0]),),) + first[1:], last), False)
        self.assertIs(judge(first, ((("fork", 0, (("loop", 0, ()),), ()),),) + last[1:]), False)
        self.assertIs(judge(first, ((("fork", 0, (("fence",),), ()),),) + last[1:]), True)
        self.assertIs(ever_holds(frame, processor, (0,), ("told", (first, last))), False)
        self.assertIs(ever_holds(frame, processor, lot, ("told", [first, last])), False)
        for run in (None, first[:2], first + (0,), list(first), (list(first[0]),) + first[1:], (first[0], (2,), (1,)),
                (first[0], (False,), (1,))):
            self.assertIs(judge(run, last), False)

    def test_late(self):
        frame, processor, lot = late_processor()
        need_frame(frame)
        need_processor(frame, processor)
        self.assertTrue(is_tupled(late_processor()))
        self.assertIs(is_kept(frame, processor, lot), True)
        self.assertIs(is_kept_ever(frame, processor, lot), False)

    def test_loudest_ones_keep_for_ever(self):
        for frame in FRAMES + [(2, 1, 2, (AND,), 2)]:
            for lot in LOTS:
                self.assertIs(is_kept_ever(frame, loudest(frame, lot), lot), True)

    def test_any_values(self):
        good = (SMALL, UP, ())
        wrong = {0: (None, (InvalidFrame, -1)), 1: (((4,), (0,)), (InvalidProcessor, 0)), 2: ([3, 3], (InvalidLot, 1))}
        for function in (ever_paper, is_kept_ever):
            try_wrong(self, function, good, {1: InvalidProcessor, 2: InvalidLot})
            try_order(self, function, good, wrong)
        try_wrong(self, ever_holds, good + (None,), {1: InvalidProcessor, 2: InvalidLot})
        try_order(self, ever_holds, good + (None,), wrong)


FRAME = (2, 2, 0, (AND,), 1)
OP = (("op", 0, 0, 0, 1),)
DEALS = [[(0, 0), (0, 1)], [(1, 0), (1, 1)]]


def some_deals(draw, frame, secrets, inputs):
    data = data_of(frame)
    return [[draw.choice(data) for _ in range(inputs)] for _ in range(secrets)]


def traces(frame, program, lot, deals):
    return [[trace_of(frame, program, datum, lot) for datum in secret] for secret in deals]


def lots_of(count):
    return itertools.chain.from_iterable(itertools.combinations(range(count), many) for many in range(count + 1))


def slow_asks(dealt, secrets):
    """The fewest asks at the worst, by all trees."""
    parts = []
    for number in range(len(dealt[0])):
        told = {}
        for secret in secrets:
            told.setdefault(str(dealt[secret][number]), []).append(secret)
        if len(told) > 1:
            parts.append(1 + max(slow_asks(dealt, part) for part in told.values()))
    return min(parts, default=0)


def cases(many, seed):
    for frame in FRAMES:
        draw = random.Random(f"{seed} {frame}")
        for program in some_programs(frame, many, seed=seed):
            yield frame, program, draw.choice(LOTS), some_deals(draw, frame, draw.randrange(1, 6), draw.randrange(1, 5))


class SecretsTest(unittest.TestCase):
    def test_the_printed_example(self):
        frame = (2, 2, 0, ((0, 0, 0, 1),), 0)
        told = secret_classes(frame, OP, [0], DEALS), telling_inputs(frame, OP, [0], DEALS), sum_deals(frame, 2)
        self.assertEqual(told, (((0,), (1,)), ((0,), (1,)), (((0, 0), (1, 1)), ((0, 1), (1, 0)))))

    def test_classes(self):
        for frame, program, lot, deals in cases(12, 59):
            dealt = traces(frame, program, lot, deals)
            expected = {}
            for secret, told in enumerate(dealt):
                expected.setdefault(str(told), []).append(secret)
            told = secret_classes(frame, program, lot, deals)
            self.assertEqual(told, tuple(sorted(map(tuple, expected.values()))))
            # On a loudest one, and so on each that keeps the lot, just those of one class look alike.
            views = {}
            for secret, data in enumerate(deals):
                view = tuple(view_of(frame, loudest(frame, lot), program, datum) for datum in data)
                views.setdefault(view, []).append(secret)
            self.assertEqual(told, tuple(sorted(map(tuple, views.values()))))

    def test_telling_inputs(self):
        many = set()
        for frame, program, lot, deals in cases(25, 60):
            dealt = traces(frame, program, lot, deals)
            pairs = [(one, other) for one, other in itertools.combinations(dealt, 2) if one != other]
            telling = [part for part in lots_of(len(deals[0])) if all(any(one[at] != other[at] for at in part) for one, other in pairs)]
            least = [part for part in telling if not any(set(other) < set(part) for other in telling)]
            told = telling_inputs(frame, program, lot, deals)
            self.assertEqual(told, tuple(sorted(least, key=lambda part: (len(part), part))))
            self.assertEqual(told, crossings(len(deals[0]), [
                [at for at in range(len(one)) if one[at] != other[at]] for one, other in pairs]))
            self.assertLessEqual(asks_paper(frame, program, lot, deals)[0], min(map(len, told)))
            many.add(told)
        self.assertGreater(len(many), 8)

    def test_twelve_inputs_and_thirteen(self):
        for count in (12, 13):
            deals = [[(0, 0)] * count, [(0, 0)] * (count - 1) + [(1, 0)]]
            expected = ("told", ((count - 1,),)) if count < 13 else (InvalidSize, "inputs")
            self.assertEqual(outcome(telling_inputs, FRAME, OP, (0,), deals), expected)
            self.assertEqual(secret_classes(FRAME, OP, (0,), deals), ((0,), (1,)))
            self.assertEqual(asks_paper(FRAME, OP, (0,), deals),
                (1, ("ask", count - 1, (("told", (0,)), ("told", (1,))))))
            self.assertEqual(telling_inputs(FRAME, OP, (), [[(0, 0)] * 12] * 2), ((),))

    def test_asks(self):
        worst = set()
        for frame, program, lot, deals in cases(25, 61):
            dealt = traces(frame, program, lot, deals)
            paper = asks_paper(frame, program, lot, deals)
            self.assertTrue(is_tupled(paper))
            self.assertEqual(paper[0], slow_asks(dealt, range(len(deals))))
            self.assertIs(asks_hold(frame, program, lot, deals, paper), True)
            self.check_tree(dealt, tuple(range(len(deals))), paper[1], paper[0])
            worst.add(paper[0])
        self.assertGreater(len(worst), 2)

    def check_tree(self, dealt, secrets, tree, most):
        parts = lambda at: sorted(self.parted(dealt, secrets, at))
        if tree[0] == "told":
            self.assertEqual(tree, ("told", secrets))
            self.assertTrue(all(len(parts(at)) == 1 for at in range(len(dealt[0]))))
            return
        self.assertEqual(tree[0], "ask")
        self.assertGreater(most, 0)
        self.assertEqual(len(tree[2]), len(parts(tree[1])))
        for part, below in zip(parts(tree[1]), tree[2]):
            self.check_tree(dealt, part, below, most - 1)

    def parted(self, dealt, secrets, at):
        told = {}
        for secret in secrets:
            told.setdefault(str(dealt[secret][at]), []).append(secret)
        return [tuple(part) for part in told.values()]

    def test_one_asked_by_what_was_told(self):
        # Four secrets: one input halves them, and each half is parted by another one.
        frame, program = (2, 2, 0, (AND,), 0), (("op", 0, 0, 0, 0),)
        zero, one = (0, 0), (1, 0)
        deals = [[zero, zero, zero], [zero, one, zero], [one, zero, zero], [one, zero, one]]
        told = lambda secret: ("told", (secret,))
        tree = ("ask", 0, (("ask", 1, (told(0), told(1))), ("ask", 2, (told(2), told(3)))))
        self.assertEqual(asks_paper(frame, program, (0,), deals)[0], 2)
        self.assertEqual(telling_inputs(frame, program, (0,), deals), ((0, 1, 2),))
        judge = lambda value: asks_hold(frame, program, (0,), deals, value)
        self.assertIs(judge((2, tree)), True)
        # Another tree asks more at the worst: it is none of the fewest.
        long = ("ask", 1, (("ask", 0, (told(0), ("ask", 2, (told(2), told(3))))), told(1)))
        self.assertIs(judge((3, long)), False)
        self.assertIs(judge((2, long)), False)
        for value in ((3, tree), (True, tree), (2, tree[:2]), (2, ("ask", 0, tree[2][::-1])), (2, ("ask", 3, tree[2])),
                (2, ("ask", False, tree[2])),
                      (2, ("ask", 0, list(tree[2]))), [2, tree], (2, told(0)), (2, tree, ()),
                      (2, ("told", (0, 1, 2, 3)))):
            self.assertIs(judge(value), False)
        # An ask that parts nothing may stand where there is room for it.
        deals = [[zero, zero, zero], [zero, zero, one], [one, zero, zero], [one, zero, zero]]
        rest = ("told", (2, 3))
        for value, expected in (
                (("ask", 0, (("ask", 2, (told(0), told(1))), rest)), True),
                (("ask", 2, (("ask", 0, (told(0), rest)), told(1))), True),
                (("ask", 0, (("ask", 2, (told(0), told(1))), ("ask", 1, (rest,)))), True),
                (("ask", 2, (("ask", 0, (told(0), ("ask", 1, (rest,)))), told(1))), False),
                (("ask", 0, (("ask", 2, (told(0), told(1))), ("ask", 2, (rest,)))), True),
                (("ask", 0, (("ask", 2, (told(0), told(1))), ("told", (2,)))), False)):
            self.assertIs(asks_hold(frame, program, (0,), deals, (2, value)), expected, value)

    def test_changed_trees(self):
        deals = [[(0, 0), (0, 0)], [(1, 0), (0, 0)], [(1, 0), (1, 1)]]
        paper = asks_paper(FRAME, OP, (0,), deals)
        try_judge(self, lambda value: asks_hold(FRAME, OP, (0,), deals, value), paper)
        one = asks_paper(FRAME, OP, (0,), [[(0, 0)]])
        self.assertEqual(one, (0, ("told", (0,))))
        try_judge(self, lambda value: asks_hold(FRAME, OP, (0,), [[(0, 0)]], value), one, lambda value: value == one)

    def test_wrong_deals(self):
        functions = [secret_classes, telling_inputs, asks_paper, shares_paper]
        for deals, at in (
                (None, -1), ([], -1), ((), -1), (0, -1), ("", -1), ([[]], 0), ([None], 0), ([[(0, 0)], []], 1),
                ([[(0, 0)], [(0, 0), (0, 1)]], 1),
                ([[(0, 0)], (0, 0)], 1), ([[(0, 0)], [(0, 2)]], 1), ([[(0, 0)], [[0, 0]]], 1), ([[(0, False)], []], 0),
                ([[(0,)]], 0), ([(0, 0)], 0),
                ([[(0, 0)], [(0, 1)], [HUGE]], 2)):
            for function in functions:
                self.assertEqual(outcome(function, FRAME, OP, (0,), deals), (InvalidDatum, at), (function, deals))
            for function in (asks_hold, shares_hold):
                self.assertEqual(outcome(function, FRAME, OP, (0,), deals, None), (InvalidDatum, at), (function, deals))
        good = (FRAME, OP, (0,), DEALS)
        wrong = {
            0: (None, (InvalidFrame, -1)), 1: ((0,), (InvalidProgram, 0)), 2: ([3, 3], (InvalidLot, 1)),
            3: ([[]], (InvalidDatum, 0))}
        for function in functions:
            try_wrong(self, function, good, {1: InvalidProgram, 2: InvalidLot, 3: InvalidDatum})
            try_order(self, function, good, wrong)
            self.assertEqual(function(*good), function(FRAME, OP, [0], tuple(map(tuple, DEALS))))
        for function in (asks_hold, shares_hold):
            try_wrong(self, function, good + (None,), {1: InvalidProgram, 2: InvalidLot, 3: InvalidDatum})
            try_order(self, function, good + (None,), wrong)
        # The same data may stand at more than one input.
        self.assertEqual(secret_classes(FRAME, OP, (0,), [[(0, 0), (0, 0)], [(0, 0), (0, 0)]]), ((0, 1),))


class SharesTest(unittest.TestCase):
    def test_the_printed_example(self):
        frame = (2, 2, 0, ((0, 0, 0, 1),), 0)
        self.assertEqual(
            shares_paper(frame, OP, [1], sum_deals(frame, 2)),
            ("even", (((((0,), (), None),), 1), ((((1,), (), None),), 1))))

    def test_how_often_traces_come(self):
        words = []
        for frame, program, lot, deals in cases(25, 62):
            counts = [collections.Counter(secret) for secret in traces(frame, program, lot, deals)]
            paper = shares_paper(frame, program, lot, deals)
            self.assertTrue(is_tupled(paper))
            self.assertIs(shares_hold(frame, program, lot, deals, paper), True)
            if all(count == counts[0] for count in counts):
                self.assertEqual(paper, ("even", tuple(sorted(counts[0].items()))))
            else:
                word, one, other, trace = paper
                self.assertEqual(word, "uneven")
                self.assertNotEqual(counts[one][trace], counts[other][trace])
            # As often as on a loudest one the views.
            views = [
                sorted(view_of(frame, loudest(frame, lot), program, datum) for datum in secret) for secret in deals]
            self.assertEqual(paper[0] == "even", all(view == views[0] for view in views))
            words.append(paper[0])
        self.assertGreater(min(words.count("even"), words.count("uneven")), 10)

    def test_forks_of_unlike_sides(self):
        frame = (2, 2, 2, (AND,), 2)
        program = (("fork", 0, (("op", 0, 0, 1, 1), ("load", 0, 1)), (("load", 1, 0), ("op", 0, 0, 0, 0))),
            ("store", 0, 1))
        for lot in LOTS:
            paper = shares_paper(frame, program, lot, [data_of(frame), data_of(frame)[::-1]])
            self.assertEqual(paper[0], "even")
            self.assertEqual(list(paper[1]), sorted(paper[1]))
            self.assertEqual(sum(many for _, many in paper[1]), 16)
            self.assertIs(shares_hold(frame, program, lot, [data_of(frame)] * 2, paper), True)

    def test_uneven_papers(self):
        frame, deals = (2, 2, 0, (AND,), 0), [[(0, 0), (0, 1)], [(0, 0), (1, 1)], [(0, 1), (0, 0)]]
        judge = lambda value: shares_hold(frame, OP, (0,), deals, value)
        zero, one, none = ((((0,), (), None),), (((1,), (), None),), (((2,), (), None),))
        for value, expected in (
                (("uneven", 0, 1, zero), True), (("uneven", 1, 0, zero), True), (("uneven", 0, 1, one), True),
                (("uneven", 1, 2, one), True),
                (("uneven", 0, 2, zero), False), (("uneven", 0, 0, zero), False), (("uneven", 0, 1, none), False),
                (("uneven", 0, 1, ()), False),
                (("uneven", 0, 3, zero), False), (("uneven", False, 1, zero), False),
                (("uneven", 0, 1, (((False,), (), None),)), False),
                (("uneven", 0, 1, (([0], (), None),)), False), (("uneven", 0, 1, list(zero)), False),
                (("even", ((zero, 2),)), False),
                (("even", ()), False), (("uneven", -1, 1, zero), False), (("uneven", 0, 1), False),
                (["uneven", 0, 1, zero], False)):
            self.assertIs(judge(value), expected, value)
        paper = shares_paper(frame, OP, (0,), deals)
        try_judge(self, judge, paper)

    def test_changed_even_papers(self):
        frame = (2, 2, 0, (AND,), 1)
        deals = sum_deals(frame, 2)
        for program in (OP, (), (("fork", 0, (), OP),)):
            for lot in ((), (1,)):
                paper = shares_paper(frame, program, lot, deals)
                if paper[0] == "even":
                    try_judge(self, lambda value: shares_hold(frame, program, lot, deals, value), paper,
                        lambda value: value == paper)
        one = shares_paper(frame, OP, (0, 1), [[(0, 1)]])
        self.assertEqual(one, ("even", (((((0, 1), (), None),), 1),)))
        twice = shares_paper(frame, OP, (0, 1), [[(0, 1), (0, 1)]])
        self.assertEqual(twice[1][0][1], 2)

    def test_sums(self):
        for frame in FRAMES + [(3, 3, 0, (SUM3,), 0), (3, 2, 3, (), 0), (2, 3, 2, (), 0), (3, 1, 0, (), 0)]:
            size, registers = frame[:2]
            for many in range(1, registers + 1):
                told = sum_deals(frame, many)
                self.assertTrue(is_tupled(told))
                self.assertEqual(len(told), size)
                for value, data in enumerate(told):
                    expected = [
                        datum for datum in data_of(frame) if sum(datum[:many]) % size == value and not any(datum[many:])]
                    self.assertEqual(list(data), expected)
                    self.assertEqual(len(data), size ** (many - 1))
        for value in ANY:
            told = outcome(sum_deals, (2, 2, 0, (), 0), value)
            self.assertEqual(told[0] == "told", type(value) is int and value in (1, 2), value)
            if told[0] != "told":
                self.assertEqual(told, (InvalidSize, "many"))
        try_order(self, sum_deals, (SMALL, 1), {0: (None, (InvalidFrame, -1)), 1: (0, (InvalidSize, "many"))})

    def test_a_share_that_does_not_stand(self):
        # Programs without loads and stores in which one of the registers doesn't stand are even by each lot.
        for frame in ((2, 3, 0, (AND, XOR), 1), (3, 3, 0, (SUM3,), 1)):
            deals = sum_deals(frame, 3)
            less = (frame[0], 2) + frame[2:]
            for program in some_programs(less, 25, seed=63):
                for lot in LOTS:
                    self.assertEqual(shares_paper(frame, program, lot, deals)[0], "even")
            if frame[0] == 2:
                whole = (("op", 1, 0, 0, 1), ("op", 1, 0, 0, 2), ("op", 0, 0, 0, 0))
                self.assertEqual(shares_paper(frame, whole, (0,), deals)[0], "uneven")
                self.assertEqual(shares_paper(frame, whole, (), deals)[0], "even")

    def test_parts_of_what_was_told_may_be_passed_on(self):
        told = sum_deals((3, 3, 3, (), 0), 2)
        for deals in (told[::-1], told[:2], tuple(data[::-1] for data in told), told + told):
            self.assertEqual(shares_paper((3, 3, 3, (), 0), (), (), deals), ("even", (((), 3),)))
        self.assertEqual(with_part(told, 0, told[1])[0], told[1])


if __name__ == "__main__":
    unittest.main()
