"""[25], [26]: watchers, lots that they see, papers of machines, blind processors."""

import itertools
import random
import unittest

from leastpromise.errors import InvalidFrame, InvalidLot, InvalidProcessor, InvalidSize, InvalidWatcher, Refused
from leastpromise.events import frame_events, need_processor, read_step, view_of
from leastpromise.leaks import least_leaks
from leastpromise.runs import unlike_atoms
from leastpromise.watchers import (
    blind_processor, machine_holds, machine_paper, need_watcher, seen_leaks, seen_within, told_by)
from tests.samples import (
    AND, ANY, HUGE, XOR, data_of, is_tupled, kind_processor, outcome, some_programs, try_judge, try_order, try_wrong,
    with_part)
from tests.slow import SlowCourt

SMALL = (2, 1, 0, (), 0)
UP = ((0,), (((1, 0), (1, 0), (2, 0)),))
FRAMES = [(2, 1, 0, (AND,), 1), (2, 2, 0, (XOR,), 1), (2, 2, 0, (AND, XOR), 0), (2, 1, 2, (AND,), 1), (2, 1, 2, (), 0)]
LAST = ((0, 1), ((0, 1), (0, 1)))
PARITY = ((0, 1), ((1, 0), (0, 1)))
DEAF = ((5,), ((0,),))


def some_machine(draw, states, said=2, moves=3):
    says = tuple(draw.randrange(said) for _ in range(states))
    return says, tuple(tuple(draw.randrange(states) for _ in range(draw.randrange(1,
        moves + 1))) for _ in range(states))


def shows(frame, processor, watcher, told):
    lot, program, one, other = told
    views = [view_of(frame, processor, program, datum) for datum in (one, other)]
    return unlike_atoms(frame, program, one, other) == (lot, False) and told_by(watcher, views[0]) != told_by(watcher,
        views[1])


def step_of(machine, state, beats):
    row = machine[1][state]
    return row[beats - 1] if beats <= len(row) else row[-1]


def slow_seen(frame, processor, machine):
    """All lots seen, by all flat rows, one lot of unlike atoms at a time."""
    court = SlowCourt(frame, processor, ())
    waiting = [((one, 0, 0), (other, 0, 0), frozenset()) for one, other in itertools.combinations(court.data, 2)]
    known, seen = set(waiting), set()
    while waiting:
        near, far, atoms = waiting.pop()
        if machine[0][near[2]] != machine[0][far[2]]:
            seen.add(atoms)
        for passes in court.passes.values():
            if near[0] in passes and far[0] in passes:
                (step, behind), (other, last) = passes[near[0]], passes[far[0]]
                if step[0][0] == "fork" and step[0] != other[0]:
                    continue
                unlike = atoms_of(step, other)
                later = []
                for (_, state, control), told, datum in ((near, step, behind), (far, other, last)):
                    beats, state = read_step(frame, processor, state, told)
                    later.append((datum, state, step_of(machine, control, beats)))
                found = (later[0], later[1], atoms | unlike)
                if found not in known:
                    known.add(found)
                    waiting.append(found)
    least = [lot for lot in seen if not any(other < lot for other in seen)]
    return tuple(sorted((tuple(sorted(lot)) for lot in least), key=lambda lot: (len(lot), lot)))


def atoms_of(step, other):
    first = {"op": 0, "load": 2, "store": 4, "wrong op": 6, "wrong load": 8}
    found = set()
    for one, more in zip((step[0],) + step[1], (other[0],) + other[1]):
        if one[0] in first:
            found |= {first[one[0]] + at for at in (0, 1) if one[at - 2] != more[at - 2]}
    return frozenset(found)


class NeedTest(unittest.TestCase):
    def test_right_ones(self):
        six = (tuple(range(6)), tuple((state,) * 3 for state in range(6)))
        for watcher in ("rows", "stopwatch", LAST, DEAF, six, ((HUGE, 0), ((0,), (1,)))):
            self.assertIs(need_watcher(watcher), watcher)

    def test_wrong_ones(self):
        for value, at in (
                ("row", -1), ("", -1), (None, -1), ((), -1), (((), ()), -1), (((0,), ()), -1),
                (((0,), ((0,), (0,))), -1),
                (((0,) * 7, ((0,),) * 7), -1), ([(0,), ((0,),)], -1), (([0], ((0,),)), -1), (((0,), [(0,)]), -1),
                (((0,), ((0,),), ()), -1), (((-1,), ((0,),)), 0), (((True,), ((0,),)), 0), (((None,), ((1,),)), 0),
                ((("a", 0), ((0,), (0,))), 0), (((0,), ((),)), 1), (((0,), ([0],)), 1), (((0,), ((1,),)), 1),
                (((0,), ((True,),)), 1), (((0,), ((-1,),)), 1), (((0, 0), ((0,), (2,))), 2), (((0, 0), ((0,), 0)), 2),
                (((0, 0), ((0, 1, HUGE), ())), 1), (((0, [0]), ((5,), (0,))), 0), (((0, 0), ((1,), (0, "0"))), 2)):
            self.assertEqual(outcome(need_watcher, value), (InvalidWatcher, at), value)
        try_wrong(self, need_watcher, (LAST,), {0: InvalidWatcher})

    def test_what_is_told(self):
        for watcher, view, expected in (
                ("rows", [], ()), ("rows", [3, 1], (3, 1)), ("rows", (HUGE,), (HUGE,)), ("stopwatch", (), 0),
                ("stopwatch", [3, 1, 1], 5), (LAST, (), 0), (LAST, (1,), 0), (LAST, (2,), 1), (LAST, (9, 1), 0),
                (LAST, (1, HUGE), 1),
                (PARITY, (1, 1, 2, 1), 1), (PARITY, (2,), 0), (DEAF, [7], 5),
                (((1, 2, 3), ((1, 2), (1,), (0, 2))), (2, 1, 3), 3)):
            self.assertEqual(told_by(watcher, view), expected, (watcher, view))
        for view in (None, 0, "1", [0], (1, 0), [True], [None], ["1"], [-1], [[1]], {1: 1}):
            self.assertEqual(outcome(told_by, "rows", view), (InvalidSize, "beats"), view)
        try_wrong(self, told_by, (LAST, (1,)), {0: InvalidWatcher, 1: InvalidSize})
        try_order(self, told_by, (LAST, (1,)), {0: ("no", (InvalidWatcher, -1)), 1: ([0], (InvalidSize, "beats"))})


class SeenTest(unittest.TestCase):
    def test_words_see_the_least_leaks(self):
        for frame in FRAMES + [(2, 2, 2, (XOR,), 1)]:
            draw = random.Random(f"25 {frame}")
            for _ in range(4):
                processor = kind_processor(draw, frame_events(frame), draw.randrange(1, 4), 0.2)
                leaks = least_leaks(frame, processor)
                for watcher in ("rows", "stopwatch"):
                    self.assertEqual(seen_leaks(frame, processor, watcher), leaks)
                    self.check_within(draw, frame, processor, watcher, leaks)

    def check_within(self, draw, frame, processor, watcher, leaks):
        for _ in range(3):
            lot = tuple(atom for atom in range(10) if draw.random() < 0.6)
            told = seen_within(frame, processor, watcher, draw.choice((lot, list(lot))))
            within = [leak for leak in leaks if set(leak) <= set(lot)]
            self.assertEqual(told is None, not within)
            if told is not None:
                self.assertIn(told[0], within)
                self.assertTrue(is_tupled(told))
                self.assertTrue(shows(frame, processor, watcher, told))
        self.assertIsNone(seen_within(frame, processor, watcher, ()))

    def test_machines_against_all_rows(self):
        words = set()
        for frame in FRAMES:
            draw = random.Random(f"26 {frame}")
            for _ in range(4 if frame[1] + frame[2] < 3 else 2):
                processor = kind_processor(draw, frame_events(frame), draw.randrange(1, 3), 0.2)
                for machine in (LAST, PARITY, some_machine(draw, 2), some_machine(draw, 3)):
                    told = seen_leaks(frame, processor, machine)
                    self.assertEqual(told, slow_seen(frame, processor, machine), (frame, processor, machine))
                    self.check_within(draw, frame, processor, machine, told)
                    leaks = least_leaks(frame, processor)
                    self.assertTrue(all(any(set(leak) <= set(lot) for leak in leaks) for lot in told))
                    words.add(told)
        self.assertGreater(len(words), 4)

    def test_greater_machines_and_frames(self):
        draw = random.Random(27)
        for frame in ((2, 2, 2, (XOR,), 1), (2, 2, 2, (AND, XOR), 1)):
            for states in (1, 6):
                processor = kind_processor(draw, frame_events(frame), 3, 0.2)
                machine = some_machine(draw, states, 3)
                told = seen_leaks(frame, processor, machine)
                self.check_within(draw, frame, processor, machine, told)
                self.assertEqual(told == (), seen_within(frame, processor, machine, tuple(range(10))) is None)
        self.assertEqual(seen_leaks(SMALL, UP, LAST), ())

    def test_one_reads_a_wrong_way_and_the_other_does_not(self):
        # A value read chooses whether the next fork's other side is read, so how many beats that takes.
        for frame in ((2, 2, 0, (AND,), 1), (2, 1, 2, (), 1)):
            events = frame_events(frame)
            for wrong, fork in ((1, 1), (2, 1)):
                row = tuple(
                    (1, event[2]) if event[0] in ("op", "load") else (fork, 0) if event[0] == "fork" else (1, 0)
                    for event in events)
                read = tuple(
                    (wrong, 1) if event[0].startswith("wrong") else (fork, 0) if event[0] == "fork" else (1, 1)
                    for event in events)
                for guess in (2, 3):
                    processor = ((0, guess), (row, read))
                    for machine in (LAST, ((0, 1, 2), ((0, 1, 2),) * 3), ((0, 0, 1), ((0,), (0, 2), (2,))), PARITY):
                        told = seen_leaks(frame, processor, machine)
                        self.assertEqual(told, slow_seen(frame, processor, machine), (frame, processor, machine))

    def test_a_deaf_machine_sees_nothing(self):
        frame = (2, 2, 0, (XOR,), 0)
        loud = ((0,), (tuple((1 + event[-1], 0) if event[0] == "op" else (1, 0) for event in frame_events(frame)),))
        self.assertEqual(least_leaks(frame, loud), ((1,),))
        self.assertEqual(seen_leaks(frame, loud, DEAF), ())
        self.assertEqual(seen_leaks(frame, loud, LAST), ((1,),))
        self.assertIsNone(seen_within(frame, loud, DEAF, (0, 1)))
        # One that counts up to two sees nothing of more beats.
        self.assertEqual(seen_leaks(frame, loud, ((0, 1), ((1,), (1,)))), ())

    def test_any_values(self):
        good = (SMALL, UP, LAST)
        wrong = {
            0: (None, (InvalidFrame, -1)), 1: (((4,), (0,)), (InvalidProcessor, 0)),
            2: (((0,), ((),)), (InvalidWatcher, 1)),
            3: ([3, 3], (InvalidLot, 1))}
        errors = {1: InvalidProcessor, 2: InvalidWatcher, 3: InvalidLot}
        try_wrong(self, seen_leaks, good, {place: errors[place] for place in (1, 2)})
        try_order(self, seen_leaks, good, {place: wrong[place] for place in (0, 1, 2)})
        try_wrong(self, seen_within, good + ((0,),), errors)
        try_order(self, seen_within, good + ((0,),), wrong)
        self.assertEqual(outcome(seen_within, SMALL, UP, "rows", [10]), (InvalidLot, 0))


def slow_alike_pairs(machine):
    states = range(len(machine[0]))
    return {pair for pair in itertools.product(states, repeat=2) if machine[0][pair[0]] == machine[0][pair[1]]}


def slow_word(machine, most):
    """Whether pairs that say the same may go on for ever, behind unlike beats: by striking those that can't."""
    beats = range(1, most + 1)
    come, waiting = {0}, [0]
    while waiting:
        state = waiting.pop()
        for later in {step_of(machine, state, count) for count in beats} - come:
            come.add(later)
            waiting.append(later)
    pairs = slow_alike_pairs(machine)
    while True:
        kept = {
            pair for pair in pairs
            if any((step_of(machine, pair[0], one),
            step_of(machine, pair[1], other)) in pairs for one in beats for other in beats)}
        if kept == pairs:
            break
        pairs = kept
    begins = {
        (step_of(machine, state, one), step_of(machine, state, other)) for state in come for one in beats for other in beats
        if one != other}
    return "blind" if begins & pairs else "sees"


def slow_machine_holds(machine, most, value):
    """The paper's words, taken one by one."""
    is_beat = lambda beat: type(beat) is int and 1 <= beat <= most
    if not isinstance(value, tuple) or not value:
        return False
    states, beats = range(len(machine[0])), range(1, most + 1)
    if value[0] == "blind" and len(value) == 6:
        _, ahead, one, other, behind, ring = value
        if not all(isinstance(part, tuple) for part in (ahead, behind, ring)) or not all(map(is_beat,
                ahead + (one, other))):
            return False
        if one == other or ring == () or not all(
                isinstance(pair, tuple) and len(pair) == 2 and all(map(is_beat, pair)) for pair in behind + ring):
            return False
        state = 0
        for beat in ahead:
            state = step_of(machine, state, beat)
        way = [(step_of(machine, state, one), step_of(machine, state, other))]
        for near, far in behind + ring:
            way.append((step_of(machine, way[-1][0], near), step_of(machine, way[-1][1], far)))
        return set(way) <= slow_alike_pairs(machine) and way[len(behind)] == way[-1]
    if value[0] != "sees" or len(value) != 2 or not isinstance(value[1], tuple):
        return False
    ranks = {}
    for rank in value[1]:
        if not isinstance(rank, tuple) or len(rank) != 3 or not all(type(part) is int for part in rank):
            return False
        if rank[0] not in states or rank[1] not in states or rank[0] >= rank[1] or rank[2] < 0 or rank[:2] in ranks:
            return False
        if rank[:2] not in slow_alike_pairs(machine):
            return False
        ranks[rank[:2]] = rank[2]
    if list(value[1]) != sorted(value[1]):
        return False
    come, waiting = {0}, [0]
    while waiting:
        state = waiting.pop()
        for later in {step_of(machine, state, count) for count in beats} - come:
            come.add(later)
            waiting.append(later)
    for state in come:
        for one, other in itertools.permutations(beats, 2):
            pair = (step_of(machine, state, one), step_of(machine, state, other))
            if pair in slow_alike_pairs(machine) and tuple(sorted(pair)) not in ranks:
                return False
    for (near, far), rank in ranks.items():
        for one, other in itertools.product(beats, repeat=2):
            pair = (step_of(machine, near, one), step_of(machine, far, other))
            if pair in slow_alike_pairs(machine) and ranks.get(tuple(sorted(pair)), rank) >= rank:
                return False
    return True


# Machines that see, for beats to 2, though unlike beats lead to states that say the same for some steps.
RANKED = [
    (((2, 2, 4, 3, 1, 2), ((5, 3), (2, 4), (0, 4), (4, 1), (5, 1), (3, 0))), ((1, 5, 0),)),
    (((2, 0, 4, 0, 0, 4), ((3, 5), (2, 5), (0, 1), (5, 2), (1, 4), (5, 4))), ((1, 4, 0), (2, 5, 1))),
    (((3, 3, 3, 0, 1, 2), ((0, 1), (2, 4), (5, 3), (1, 2), (2, 1), (2, 1))), ((0, 1, 1), (0, 2, 0), (1, 2, 0))),
    (((3, 1, 4, 4, 3, 4), ((4, 1), (4, 0), (4, 1), (0, 2), (5, 2), (3, 5))),
    ((0, 4, 0), (2, 3, 1), (2, 5, 0), (3, 5, 2))),
    (((2, 2, 1, 2, 0, 1), ((0, 1), (5, 3), (5, 0), (2, 4), (1, 4), (4, 3))),
    ((0, 1, 3), (0, 3, 0), (1, 3, 2), (2, 5, 1)))]
SEEING = [machine for machine, _ in RANKED] + [LAST, ((0, 1, 2), ((1, 2), (2, 0), (0, 1)))]


def some_machines(many=150):
    draw = random.Random(28)
    for _ in range(many):
        states = draw.randrange(1, 7)
        yield some_machine(draw, states, draw.choice((2, states)), draw.choice((2, 3, 5)))
    for states in range(2, 7):
        # All states say something else: nothing is hidden but what leads to one state.
        yield tuple(range(states)), tuple(tuple((state + beat) % states for beat in range(2)) for state in range(states))


class MachineTest(unittest.TestCase):
    def test_just_one_word(self):
        words = {"blind": 0, "sees": 0}
        for machine in list(some_machines()) + SEEING + [PARITY, DEAF]:
            for most in (2, 3, 5):
                paper = machine_paper(machine, most)
                self.assertTrue(is_tupled(paper))
                self.assertEqual(paper[0], slow_word(machine, most), (machine, most))
                self.assertIs(machine_holds(machine, most, paper), True, (machine, most, paper))
                self.assertTrue(slow_machine_holds(machine, most, paper))
                words[paper[0]] += 1
        self.assertGreater(min(words.values()), 10)

    def test_the_least_ranks(self):
        for machine, ranks in RANKED:
            self.assertEqual(machine_paper(machine, 2), ("sees", ranks))
            self.assertEqual(machine_paper(machine, 3)[0], "blind")
            for at, rank in enumerate(ranks):
                self.assertFalse(machine_holds(machine, 2, ("sees", ranks[:at] + ranks[at + 1:])))
                for less in range(rank[2]):
                    self.assertIs(machine_holds(machine, 2, ("sees", with_part(ranks, at, rank[:2] + (less,)))), False)
                for more in range(1, 5):
                    greater = with_part(ranks, at, rank[:2] + (rank[2] + more,))
                    self.assertIs(machine_holds(machine, 2, ("sees", greater)),
                        slow_machine_holds(machine, 2, ("sees", greater)))
            self.assertIs(machine_holds(machine, 2, ("sees", tuple(rank[:2] + (rank[2] + HUGE,) for rank in ranks))),
                True)
            self.assertIs(machine_holds(machine, 2, ("sees", tuple(rank[:2] + (rank[2] * 7 + 3,) for rank in ranks))),
                True)
            self.assertIs(machine_holds(machine, 3, ("sees", ranks)), False)

    def test_ranks_of_more_pairs(self):
        # A pair that is not come to may be ranked, if it says the same and leads to lesser ranks alone.
        for machine, ranks in RANKED:
            ranked = [rank[:2] for rank in ranks]
            for pair in itertools.combinations(range(6), 2):
                if pair not in ranked:
                    for number in (0, 4):
                        value = ("sees", tuple(sorted(ranks + (pair + (number,),))))
                        self.assertIs(machine_holds(machine, 2, value), slow_machine_holds(machine, 2, value))
        lonely = ((0, 1, 2, 2), ((0, 1), (1, 0), (0,), (1,)))
        self.assertEqual(machine_paper(lonely, 2), ("sees", ()))
        self.assertIs(machine_holds(lonely, 2, ("sees", ((2, 3, 0),))), True)
        self.assertIs(machine_holds(lonely, 2, ("sees", ((2, 3, HUGE),))), True)
        self.assertIs(machine_holds(lonely, 2, ("sees", ((3, 2, 0),))), False)
        # No two states are there twice, also with unlike ranks.
        self.assertIs(machine_holds(lonely, 2, ("sees", ((2, 3, 0), (2, 3, 1)))), False)
        self.assertIs(machine_holds(lonely, 2, ("sees", ((0, 1, 0),))), False)
        self.assertIs(machine_holds(lonely, 2, ("sees", ((2, 2, 0),))), False)

    def test_by_hand(self):
        self.assertEqual(machine_paper(LAST, 2), ("sees", ()))
        self.assertEqual(machine_paper(LAST, 3)[0], "blind")
        self.assertEqual(machine_paper(DEAF, 9), ("blind", (), 1, 2, (), ((1, 1),)))
        # It says for good whether a step of more than one beat was there: what comes behind is hidden.
        self.assertEqual(machine_paper(((0, 1), ((0, 1), (1,))), 2)[:4], ("blind", (2,), 1, 2))
        self.assertEqual(machine_paper(PARITY, 2), ("sees", ()))
        self.assertEqual(machine_paper(PARITY, 3)[0], "blind")
        tree = SEEING[-1]
        self.assertEqual(machine_paper(tree, 2), ("sees", ()))
        self.assertEqual(machine_paper(tree, 3)[0], "blind")

    def test_changed_papers(self):
        for machine in SEEING + [PARITY, DEAF, ((0, 1), ((0, 1), (1,)))]:
            paper = machine_paper(machine, 2)
            judge = lambda value: machine_holds(machine, 2, value)
            try_judge(self, judge, paper, lambda value: slow_machine_holds(machine, 2, value))

    def test_other_papers(self):
        draw, seen = random.Random(29), []
        for machine in some_machines(40):
            beats = lambda: tuple(draw.randrange(1, 4) for _ in range(draw.randrange(3)))
            for _ in range(15):
                pairs = [tuple((draw.randrange(1, 4),
                    draw.randrange(1, 4)) for _ in range(draw.randrange(3))) for _ in range(2)]
                value = ("blind", beats(), draw.randrange(1, 4), draw.randrange(1, 4), pairs[0], pairs[1])
                seen.append(machine_holds(machine, 3, value))
                self.assertIs(seen[-1], slow_machine_holds(machine, 3, value))
            states = len(machine[0])
            ranks = {tuple(sorted((draw.randrange(states),
                draw.randrange(states)))): draw.randrange(4) for _ in range(3)}
            value = ("sees", tuple(sorted(pair + (rank,) for pair, rank in ranks.items())))
            self.assertIs(machine_holds(machine, 3, value), slow_machine_holds(machine, 3, value))
        self.assertIn(True, seen)

    def test_any_values(self):
        for function in (machine_paper, blind_processor):
            try_order(self, function, (DEAF, 2), {0: ("rows", (InvalidWatcher, -1)), 1: (10, (InvalidSize, "most"))})
            for value in (0, 1, 10, -1, True, None, "2", HUGE, (2,)):
                self.assertEqual(outcome(function, DEAF, value), (InvalidSize, "most"), value)
            for value in ANY + ["rows", "stopwatch"]:
                self.assertIn(outcome(function, value, 2)[0], (InvalidWatcher,), value)
        try_order(self, machine_holds, (DEAF, 2, None),
            {0: ("rows", (InvalidWatcher, -1)), 1: (1, (InvalidSize, "most"))})
        self.assertIs(machine_holds(DEAF, 9, None), False)


class BlindTest(unittest.TestCase):
    FRAME = (2, 1, 0, (AND,), 0)

    def test_a_leak_that_is_not_seen(self):
        blind = 0
        for machine in list(some_machines()) + SEEING + [PARITY, DEAF]:
            for most in (2, 4):
                if machine_paper(machine, most)[0] == "sees":
                    self.assertEqual(outcome(blind_processor, machine, most), (Refused, "sees"))
                    continue
                blind += 1
                processor = blind_processor(machine, most)
                self.assertIs(need_processor(self.FRAME, processor), processor)
                self.assertTrue(is_tupled(processor))
                self.assertLessEqual(max(beats for row in processor[1] for beats, _ in row), most)
                self.assertEqual(least_leaks(self.FRAME, processor), ((0, 1),))
                self.assertEqual(seen_leaks(self.FRAME, processor, machine), ())
        self.assertGreater(blind, 100)

    def test_a_machine_that_sees_sees_just_the_least_leaks(self):
        seen = 0
        for machine in SEEING:
            draw = random.Random(f"{machine}")
            for frame in ((2, 1, 0, (AND,), 0), (2, 2, 0, (XOR,), 0), (2, 1, 2, (AND,), 0)):
                for _ in range(3):
                    # Without wrong ways each step takes at most two beats.
                    processor = kind_processor(draw, frame_events(frame), draw.randrange(1, 4), 0.2)
                    self.assertEqual(seen_leaks(frame, processor, machine), least_leaks(frame, processor))
                    seen += least_leaks(frame, processor) != ()
        self.assertGreater(seen, 20)

    def test_what_programs_show(self):
        draw = random.Random(30)
        for machine in list(some_machines(20)):
            processor = kind_processor(draw, frame_events(FRAMES[0]), 2, 0.3)
            seen = seen_leaks(FRAMES[0], processor, machine)
            for program in some_programs(FRAMES[0], 6, seed=machine[0]):
                for one, other in itertools.combinations(data_of(FRAMES[0]), 2):
                    atoms, sides = unlike_atoms(FRAMES[0], program, one, other)
                    if not sides and shows(FRAMES[0], processor, machine, (atoms, program, one, other)):
                        self.assertTrue(any(set(lot) <= set(atoms) for lot in seen))


if __name__ == "__main__":
    unittest.main()
