"""[69], [70]: the desk."""

import random
import unittest

from leastpromise.bench import Bench, bench_behind
from leastpromise.desk import Desk
from leastpromise.errors import (
    InvalidCommand, InvalidDatum, InvalidDeed, InvalidIndex, PromiseError, Refused)
from leastpromise.events import frame_events
from leastpromise.live import Live
from leastpromise.texts import GUESSES, frame_text, processor_text, program_text
from tests.samples import AND, ANY, XOR, data_of, kind_processor, outcome, some_programs
from tests.test_bench import some_bench, some_deed, things_of, told_by

LINES = (
    "frame 2 registers 1 deep 0\ntable\n* * : 0\n-\n"
    "state none\nop 0 * * : 1 0\nop 0 1 1 : 2 0\nfence : 1 0\nfork * : 1 0")
OPEN = "open\n" + LINES + "\n-\na = t0 a a\n-\n0\n1"
REFUSED = (InvalidCommand, None)
ASKED = ["frame", "processor", "program", "events", "data", "views", "leaks", "promises", "greatest", "verdict"]
FRAMES = [(2, 1, 0, (AND,), 1), (2, 2, 0, (XOR,), 1), (2, 2, 0, (AND, XOR), 0), (2, 1, 2, (AND,), 1), (2, 1, 0, (), 0)]


def row_text(numbers):
    return " ".join(map(str, numbers)) or "-"


def rows_text(rows):
    return "\n".join(map(row_text, rows)) or "none"


def verdict_text(verdict):
    if verdict[0] == "loud":
        return f"loud {row_text(verdict[1])}, {row_text(verdict[2])}"
    return "quiet " + row_text(verdict[1]) if verdict[0] == "quiet" else "lucky"


def shown(bench):
    """All that is asked, of a bench."""
    leaks, promises, views, greatest, verdict = told_by(bench)
    return {
        "frame": frame_text(bench.frame), "processor": processor_text(bench.frame, bench.processor),
        "program": program_text(bench.frame, bench.program),
        "events": "\n".join(f"{at}: {' '.join(map(str, event))}" for at, event in enumerate(frame_events(bench.frame))),
        "data": rows_text(bench.data), "views": rows_text(views), "leaks": rows_text(leaks),
        "promises": rows_text(promises),
        "greatest": "none" if greatest is None else row_text(greatest), "verdict": verdict_text(verdict)}


def opening(frame, processor, program, data):
    parts = [frame_text(frame), processor_text(frame, processor), program_text(frame, program)]
    return "\n".join(["open", "\n-\n".join(parts), "-"] + [row_text(datum) for datum in data])


def command_of(frame, deed):
    word = deed[0]
    if word == "put":
        return f"put {deed[1]}\n" + program_text(frame, (deed[2],))
    if word == "data":
        return "\n".join(["data"] + [row_text(datum) for datum in deed[1]])
    if word == "fence":
        return "fence " + row_text(deed[1])
    if word == "guess":
        return f"guess {deed[1]} {GUESSES[deed[2]]}"
    return " ".join(map(str, deed))


def opened(command=OPEN):
    desk = Desk()
    desk.say(command)
    return desk


class DeskTest(unittest.TestCase):
    def test_the_printed_example(self):
        desk = Desk()
        self.assertEqual(
            (desk.say(OPEN), desk.say("verdict"), desk.say("leaks"), desk.say("promises")),
            ("yes", "loud 0, 1", "0 1", "0\n1"))
        self.assertEqual(
            (desk.say("beats 0 3 1"), desk.say("verdict"), desk.say("undo"), desk.say("views")),
            ("1 0", "quiet 2 3 4 5 6 7 8 9", "yes", "1\n2"))

    def test_all_that_is_asked_is_as_of_a_new_bench(self):
        said = {}
        for frame in FRAMES:
            draw = random.Random(f"70 {frame}")
            for _ in range(6):
                args = some_bench(draw, frame)
                desk, live = Desk(), Live(*args)
                self.assertEqual(desk.say(opening(*args)), "yes")
                for _ in range(8):
                    word = draw.choice(["do", "do", "undo", "redo"])
                    if word == "do":
                        deed = some_deed(draw, frame)
                        if deed == ("data", ()):
                            continue
                        told, expected = outcome(desk.say, command_of(frame, deed)), outcome(live.do_deed, deed)
                        self.assertEqual(told, ("told", row_text(expected[1])) if expected[0] == "told" else expected,
                            deed)
                        said[deed[0], expected[0] == "told"] = True
                    else:
                        expected = live.undo_deed() if word == "undo" else live.redo_deed()
                        self.assertEqual(desk.say(word), "yes" if expected else "no")
                        said[word, expected] = True
                    self.check(desk, live, args)
                for number in range(len(live.deeds)):
                    for deed in (some_deed(draw, frame), live.deeds[number]):
                        if deed != ("data", ()):
                            many, verdict = live.verdict_if(number, deed)
                            self.assertEqual(desk.say(f"if {number} {command_of(frame, deed)}"),
                                f"{many}: {verdict_text(verdict)}")
                self.check(desk, live, args)
        self.assertGreater(len(said), 14)

    def check(self, desk, live, args):
        expected = shown(Bench(*things_of(live.bench)))
        self.assertEqual({word: desk.say(word) for word in ASKED}, expected)
        self.assertEqual(desk.live.deeds, live.deeds)
        for number in range(len(live.deeds) + 1):
            then = bench_behind(*args, live.deeds[:number]).verdict()
            self.assertEqual(desk.say(f"then {number}"), verdict_text(then))

    def test_what_is_told_is_so(self):
        for frame in FRAMES[:4]:
            draw = random.Random(f"71 {frame}")
            for _ in range(6):
                desk = opened(opening(*some_bench(draw, frame)))
                words = desk.say("verdict").split(" ", 1)
                if words[0] == "loud":
                    one, other = words[1].split(", ")
                    data, views = desk.say("data").split("\n"), desk.say("views").split("\n")
                    self.assertNotEqual(views[data.index(one)], views[data.index(other)])
                elif words[0] == "quiet":
                    self.assertEqual(words[1], desk.say("greatest"))
                    told, promises = set(words[1].split(" ")), desk.say("promises").split("\n")
                    self.assertTrue(any(set(lot.split(" ")) - {"-"} <= told for lot in promises))

    def test_empty_parts(self):
        frame, processor = LINES.split("\n-\n")
        still = "state none\nfence : 1 0\nfork * : 1 0"
        for command, program, data in (
                (f"open\n{frame}\n-\n{processor}\n-\n-", "", "none"),
                (f"open\n{frame}\n-\n{processor}\n-\n\n-\n", "", "none"),
                (f"open\n{frame}\n-\n{processor}\n-\n-\n1", "", "1"),
                (f"open\n{frame}\n-\n{processor}\n-\n\n-\n1\n0", "", "1\n0"),
                (f"open\n{frame}\n-\n{processor}\n-\nfence\n-", "fence", "none"),
                (f"open\n{frame}\n-\n{processor}\n-\nfence\n-\n", "fence", "none"),
                (f"open\nframe 2 registers 1 deep 0\n-\n{still}\n-\n  \n-\n0", "", "0")):
            desk = Desk()
            self.assertEqual(desk.say(command), "yes", command)
            self.assertEqual((desk.say("program"), desk.say("data")), (program, data), command)
            views = "none" if data == "none" else "\n".join(["1" if program else "-"] * len(data.split("\n")))
            self.assertEqual(desk.say("views"), views)
        desk = opened(f"open\nframe 2 registers 1 deep 0\n-\n{still}\n-\n-")
        self.assertEqual([desk.say(word) for word in ("leaks", "promises", "greatest", "verdict")],
            ["none", "-", "0 1 2 3 4 5 6 7 8 9", "quiet 0 1 2 3 4 5 6 7 8 9"])
        self.assertEqual(desk.say("fence -"), "0 0")
        self.assertEqual(desk.say("events"), "0: fence\n1: fork 0\n2: fork 1")

    def test_openings_that_are_none(self):
        frame, processor = LINES.split("\n-\n")
        for command in (
                "open", "open\n", "open ", "Open", "open\n-\n-\n-", "open\n" + LINES, OPEN + "\n-", OPEN + "\n",
                OPEN + "\n-\n0", OPEN + " ", OPEN + "\n1 ", OPEN.replace("open\n", "open "),
                OPEN.replace("open\n", "open\n\n"), OPEN.replace("\n-\n", "\n--\n"),
                OPEN.replace("\n-\nstate", "\n- \nstate"), OPEN.replace("\n-\n0", "\n-\n\n0"), OPEN + "\n01",
                OPEN + "\n0  1", OPEN + "\n0,1", OPEN + "\n10000", f"open\n{frame}\n-\n{processor}\n-\n\n\n-\n0",
                f"open\n{frame}\n-\n{processor}\n-\nfence\n\n-\n0", f"open\n\n{frame}\n-\n{processor}\n-\n-",
                f"open\n{frame}\n-\n\n-\n-", f"open\n{frame}\n-\n-\n-", f"open\n-\n{processor}\n-\n-",
                f"open\n{processor}\n-\n{frame}\n-\n-", OPEN.replace("a = t0", "a = t1"),
                OPEN.replace(": 2 0", ": 0 0"), " " + OPEN,
                OPEN + "\n-1", OPEN + "\n+1", OPEN + "\na"):
            for desk in (Desk(), opened()):
                before = desk.live
                self.assertEqual(outcome(desk.say, command), REFUSED, command)
                self.assertIs(desk.live, before)
        # What is done may raise then.
        for more, at in (("\n0", 2), ("\n2", 2), ("\n0 0", 2), ("\n9999", 2)):
            desk = opened()
            before = desk.live
            self.assertEqual(outcome(desk.say, OPEN + more), (InvalidDatum, at))
            self.assertIs(desk.live, before)
        self.assertEqual(outcome(Desk().say, OPEN.replace("\n0\n1", "\n0\n0")), (InvalidDatum, 1))

    def test_a_further_opening(self):
        desk = opened()
        desk.say("state")
        first = desk.live
        self.assertEqual(desk.say(OPEN), "yes")
        self.assertIsNot(desk.live, first)
        self.assertEqual((desk.live.deeds, desk.say("undo")), ((), "no"))

    def test_nothing_ahead_of_a_first_opening(self):
        desk = Desk()
        self.assertIsNone(desk.live)
        for command in ASKED + ["undo", "redo", "state", "then 0", "if 0 state", "beats 0 0 1", "put 0\nfence",
                "data\n0", "", "close", "fence -"]:
            self.assertEqual(outcome(desk.say, command), REFUSED, command)
        for value in ANY:
            self.assertEqual(outcome(desk.say, value), REFUSED, value)
        self.assertIsNone(desk.live)

    def test_commands_without_form(self):
        desk = opened()
        desk.say("state")
        before = desk.say("processor"), desk.live.deeds
        for command in (
                "", " ", "\n", "close", "Undo", "undo ", " undo", "undo\n", "undo 1", "redo redo", "state 1", "state\n",
                "states", "beats 0 0", "beats 0 0 1 1", "beats 0 0 01", "beats 00 0 1",
                "beats 0  0 1", "beats 0 0 1 ", " beats 0 0 1", "beats 0 0 12345", "beats 0 0 -1", "beats 0 0 a",
                "beats 0 0 1\n", "beats 0 0 +1", "beats", "next 0 0", "next 0 0 0 0", "next 0 0 x", "guess 0",
                "guess 0 3", "guess 0 all", "guess none 0", "guess 0 none 0", "guess 0 None", "strike", "strike 0 0",
                "strike -", "strike 0\n", "fence", "fence ", "fence - -", "fence 6,7", "fence 06",
                "fence 6  7", "fence 6\n7", "fence -6", "fence 12345", "put", "put 0", "put 0\n", "put\nfence",
                "put 0 fence", "put 0\nfence\nfence", "put 0\nfence\n", "put 0\n\nfence", "put 00\nfence",
                "put 0\nstop", "put 0\nif a", "put 0\n-", "put 0 0\nfence", "data\n", "data\n0\n", "data\n0 ",
                "data\n00", "data 0", "data \n0", "data\n0,1", "data\n-0", "then", "then -", "then 0 0", "then 00",
                "then 10000",
                "then 0\n", "if", "if 0", "if 0 ", "if 0 undo", "if 0 verdict", "if 0 data", "if x state",
                "if 00 state", "if 0 state 1", "if 0 state\n", "if 0  state", "if 0 put 0", "if 0 if 0 state",
                "if 0 beats 0 0", "if state", "verdict 0", "verdict\n", "leaks -", "frame\nframe", "events 1", "open",
                "program ", "if 10000 state", "put 10000\nfence", "strike 10000", "if 0 open"):
            self.assertEqual(outcome(desk.say, command), REFUSED, command)
        for value in ANY:
            self.assertEqual(outcome(desk.say, value), REFUSED, value)
        self.assertEqual((desk.say("processor"), desk.live.deeds), before)

    def test_what_is_done_may_raise(self):
        desk = opened()
        for command, expected in (
                ("beats 1 0 1", (InvalidDeed, -1)), ("beats 0 9999 1", (InvalidDeed, -1)),
                ("beats 0 0 0", (InvalidDeed, -1)), ("next 0 0 1", (InvalidDeed, -1)),
                ("guess 1 none", (InvalidDeed, -1)), ("strike 1", (InvalidDeed, -1)), ("fence 7 6", (InvalidDeed, -1)),
                ("fence 10", (InvalidDeed, -1)),
                ("fence 0", (Refused, "right")), ("put 2\nfence", (InvalidDeed, -1)), ("data\n0\n0", (InvalidDeed, -1)),
                ("data\n2", (InvalidDeed, -1)), ("data\n-", (InvalidDeed, -1)),
                ("data\n0 0", (InvalidDeed, -1)), ("then 1", (InvalidIndex, -1)), ("if 0 state", (InvalidIndex, -1)),
                ("then 9999", (InvalidIndex, -1))):
            self.assertEqual(outcome(desk.say, command), expected, command)
            self.assertEqual(desk.live.deeds, ())
        desk.say("beats 0 0 9999")
        self.assertEqual(desk.say("if 0 beats 0 0 0"), "0: loud 0, 1")
        self.assertEqual(desk.say("if 0 fence 0"), "0: loud 0, 1")
        self.assertEqual(desk.say("if 0 data\n-"), "0: loud 0, 1")

    def test_each_form(self):
        frame = (2, 2, 2, (AND,), 1)
        still = ((0,), (((1, 0),) * len(frame_events(frame)),))
        desk = opened(opening(frame, still, (), [(0, 0, 0, 0)]))
        for command, told in (
                ("state", "1 0"), ("next 0 1 1", "1 0"), ("guess 1 second", "1 0"), ("beats 1 12 10", "1 0"),
                ("put 0\nif a\n a = [b]\nelse\n loop 2\n  fence\n end\nend", "0 1"),
                ("put 1\n[a] = b", "0 1"), ("strike 1", "0 1"), ("fence 8 9", "0 1"), ("data\n0 0 0 1\n0 0 0 0", "0 1"),
                ("data\n0 0 0 0\n0 0 0 1", "0 0")):
            self.assertEqual(desk.say(command), told, command)
        self.assertEqual(desk.say("program"), "if a\n a = [b]\nelse\n fence\n fence\nend")
        self.assertEqual(desk.say("data"), "0 0 0 0\n0 0 0 1")
        self.assertEqual(desk.say("events").split("\n")[-1], f"{len(frame_events(frame)) - 1}: wrong load 1 1")
        self.assertEqual(desk.live.deeds[7], ("fence", (8, 9)))
        self.assertEqual(desk.say("if 7 fence -")[:4], "10: ")

    def test_texts_shown_can_be_read(self):
        for frame in FRAMES:
            draw = random.Random(f"72 {frame}")
            processor = kind_processor(draw, frame_events(frame), 2)
            program = some_programs(frame, 9, seed=5)[-1]
            desk = opened(opening(frame, processor, program, data_of(frame)))
            parts = [desk.say(word) for word in ("frame", "processor", "program")]
            again = opened("\n".join(["open", "\n-\n".join(parts), "-", desk.say("data")]))
            self.assertEqual({word: again.say(word) for word in ASKED}, {word: desk.say(word) for word in ASKED})
            self.assertIsInstance(desk.live, Live)
            self.assertRaises(PromiseError, desk.say, "nothing")


if __name__ == "__main__":
    unittest.main()
