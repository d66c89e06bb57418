"""Sample values for the tests, and helpers that try wrong ones."""

import itertools
import random

from leastpromise.errors import PromiseError

HUGE = 10 ** 3999
XOR = (0, 1, 1, 0)
AND = (0, 0, 0, 1)
SUM3 = (0, 1, 2, 1, 2, 0, 2, 0, 1)


def nested(depth, inner=0):
    for _ in range(depth):
        inner = (inner,)
    return inner


ANY = [
    None, True, False, -1, 0, 1, 2, 3, 4, 5, 12, 13, 60, 61, HUGE, -HUGE, "", "op", "fence", "way", "kept", "a b",
    PromiseError("x"), (), [], (0,), [0], (True,), [False], (0, 1), [0, 1], (1, 0), [1, 1], (0, True), (None,), ("a",),
    (-1,), (HUGE,), ((),), [[]], ((0,), (1,)), [[0], [1]], ((0, 0), (0, 1)), [(0, 0), (0, 1)], ((0, 0), (0, 0)),
    ("fence",), (("fence",),), [("fence",)], (["fence"],), ("op", 0, 0, 0, 0), (("op", 0, 0, 0, True),),
    (("op", 0, 0, 0, HUGE),), (("loop", HUGE, ()),), (("loop", True, ()),), (("fork", 0, (), []),), ("fork", 0),
    ("fork", False), (("fork", 0), ()), ("load", 0, 0), ("wrong op", 0, 0, 0), (2, 1, 0, (), 0), [2, 1, 0, (), 0],
    (2, True, 0, (), 0), ((0,), (((1, 0),) * 3,)), ((0,), ()), ((), ()), [[0], [[[1, 0]]]], (((0,), 0, 0),),
    ("kept", (), ()), ("kept", ((0,),), ((0,), (0,), (0,))), ("way", ()), ("way", (), ()), ("way", [], []),
    ("lot", ()), ("closed", ()), ("closed", ((),)), ("way", (("fence",),)), (((0, 0),),), [[(0, 0)], [(0, 1)]],
    nested(12), nested(12, []), [nested(5), nested(11)],
]


def outcome(function, *args):
    """("told", result), or the error's class and its attribute."""
    try:
        return "told", function(*args)
    except PromiseError as error:
        return error.__class__, getattr(error, "at", getattr(error, "word", None))


def is_tupled(value):
    if isinstance(value, tuple):
        return all(is_tupled(part) for part in value)
    return not isinstance(value, list)


def try_wrong(test, function, good, errors):
    """Any values in the place of each argument raise this argument's error or are told something."""
    test.assertEqual(outcome(function, *good)[0], "told")
    for place, error in errors.items():
        for value in ANY:
            args = good[:place] + (value,) + good[place + 1:]
            told = outcome(function, *args)
            test.assertIn(told[0], ("told", error), (function, place, value, told))
            if told[0] == "told":
                test.assertTrue(is_tupled(told[1]), (function, place, value, told))


def try_order(test, function, good, wrong):
    """Of two wrong arguments the earlier one raises its error; wrong: place: (value, error's outcome)."""
    for place, (value, expected) in wrong.items():
        args = list(good)
        args[place] = value
        test.assertEqual(outcome(function, *args), expected, (function, place))
        for later, (other, _) in wrong.items():
            if later > place:
                both = list(args)
                both[later] = other
                test.assertEqual(outcome(function, *both), expected, (function, place, later))


def listed(value):
    """The same sequence as a list, its items as they are."""
    return list(value)


FRAMES = [
    (2, 1, 0, (), 0), (2, 1, 0, (XOR,), 1), (2, 2, 0, (XOR,), 1), (2, 2, 0, (AND, XOR), 2), (2, 1, 2, (AND,), 2),
    (2, 2, 2, (XOR,), 3), (3, 1, 0, (SUM3,), 1), (3, 2, 0, (SUM3,), 2), (3, 1, 3, (), 1), (2, 3, 0, (AND,), 0),
]


def some_row(draw, frame, depth, loops=True):
    size, registers, cells, tables, _ = frame
    words = ["fence"]
    if tables:
        words += ["op"] * 4
    if cells:
        words += ["load"] * 2 + ["store"] * 2
    if depth:
        words += ["fork"] * 3 + (["loop"] if loops else [])
    word = draw.choice(words)
    register = lambda: draw.randrange(registers)
    if word == "op":
        return ("op", draw.randrange(len(tables)), register(), register(), register())
    if word in ("load", "store"):
        return (word, register(), register())
    if word == "fork":
        return ("fork", register(), some_program(draw, frame, 3, depth - 1), some_program(draw, frame, 3, depth - 1))
    if word == "loop":
        return ("loop", draw.randrange(5), some_program(draw, frame, 2, depth - 1))
    return ("fence",)


def some_program(draw, frame, most, depth=2):
    return tuple(some_row(draw, frame, depth) for _ in range(draw.randrange(most + 1)))


def some_programs(frame, many, most=4, depth=2, seed=0):
    draw = random.Random(f"{seed} {frame}")
    return [some_program(draw, frame, most, depth) for _ in range(many)]


def some_processor(draw, many_events, states):
    guesses = tuple(draw.randrange(4) for _ in range(states))
    rows = tuple(
        tuple((draw.randrange(1, 4), draw.randrange(states)) for _ in range(many_events)) for _ in range(states))
    return guesses, rows


def data_of(frame):
    """All data, told here by the standard library."""
    return list(itertools.product(range(frame[0]), repeat=frame[1] + frame[2]))


def slow_run(frame, program, datum):
    """A second reading of the machine, by changing lists: (steps, what is left)."""
    size, registers, cells, tables, deep = frame
    now, steps = list(datum), []

    def plain(row, held):
        if row[0] == "op":
            one, other = held[row[3]], held[row[4]]
            held[row[2]] = tables[row[1]][one * size + other]
            return ("op", row[1], one, other)
        if row[0] == "load":
            address = held[row[2]]
            held[row[1]] = held[registers + address]
            return ("load", address, held[registers + address] if row[1] < registers else None)
        if row[0] == "store":
            address, value = held[row[1]], held[row[2]]
            held[registers + address] = value
            return ("store", address, value)
        return ("fence",)

    def flat(rows):
        for row in rows:
            if row[0] == "loop":
                for _ in range(row[1]):
                    yield from flat(row[2])
            else:
                yield row

    def go(rows):
        for row in flat(rows):
            if row[0] != "fork":
                steps.append((plain(row, now), ()))
                continue
            side = 1 if now[row[1]] else 0
            held, wrong = list(now), []
            for other in itertools.islice(flat(row[3 - side]), deep):
                if other[0] not in ("op", "load"):
                    break
                event = plain(other, held)
                wrong.append(("wrong " + event[0],) + event[1:])
            steps.append((("fork", side), tuple(wrong)))
            go(row[2 + side])

    go(program)
    return tuple(steps), tuple(now)


def quiet_processor(draw, many_events, states, often=0.06):
    """A processor whose events seldom take two beats."""
    guesses, rows = some_processor(draw, many_events, states)
    beats = lambda: 2 if draw.random() < often else 1
    return guesses, tuple(tuple((beats(), state) for _, state in row) for row in rows)


def kind_processor(draw, events, states, parts=0.3):
    """A processor that looks at few values: events alike at them are read alike."""
    rows = []
    for _ in range(states):
        looked, read = [draw.random() < parts for _ in range(10)], {}
        row = []
        for event in events:
            first = {"op": 0, "load": 2, "store": 4, "wrong op": 6, "wrong load": 8}.get(event[0])
            seen = event[:1] if first is None else event[:-2]
            if first is not None:
                seen += tuple(value for part, value in enumerate(event[-2:]) if looked[first + part])
            row.append(read.setdefault(seen, (draw.choice((1, 1, 1, 2)), draw.randrange(states))))
        rows.append(tuple(row))
    return tuple(draw.randrange(4) for _ in range(states)), tuple(rows)


def with_part(value, at, part):
    return value[:at] + (part,) + value[at + 1:]


def wrong_kinds(value):
    """The value with one tuple turned to a list, or one 0 or 1 to a bool, at any depth."""
    if isinstance(value, tuple):
        yield list(value)
        for at, part in enumerate(value):
            for changed in wrong_kinds(part):
                yield with_part(value, at, changed)
    elif isinstance(value, int) and value in (0, 1):
        yield bool(value)


def mangled(value):
    """The value with an item of some tuple left out, doubled, exchanged with the next one, or made another one."""
    if isinstance(value, tuple):
        for at, part in enumerate(value):
            yield value[:at] + value[at + 1:]
            yield value[:at] + (part, part) + value[at + 1:]
            if at + 1 < len(value):
                yield value[:at] + (value[at + 1], part) + value[at + 2:]
            for other in (None, "", -1, HUGE, (), []):
                yield with_part(value, at, other)
            for changed in mangled(part):
                yield with_part(value, at, changed)
    elif isinstance(value, int):
        yield value + 1
        yield value - 1


def try_judge(test, judge, paper, expected=None):
    """The paper holds; none with a list or a bool in it does; no changed one raises, each is as expected tells."""
    test.assertIs(judge(paper), True, paper)
    for value in wrong_kinds(paper):
        test.assertIs(judge(value), False, value)
    for value in mangled(paper):
        told = judge(value)
        test.assertIn(told, (True, False))
        if expected is not None:
            test.assertIs(told, expected(value), value)
    for value in ANY:
        told = judge(value)
        test.assertIn(told, (True, False))
        if expected is not None:
            test.assertIs(told, expected(value), value)
