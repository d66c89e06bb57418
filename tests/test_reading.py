"""[7], [8]: texts read."""

import itertools
import random
import re
import unittest

from leastpromise.errors import InvalidFrame, InvalidText
from leastpromise.events import events_many, frame_events, need_processor
from leastpromise.programs import need_frame, need_program
from leastpromise.reading import read_frame, read_processor, read_program
from leastpromise.texts import frame_text, processor_text, program_text
from tests.samples import (
    AND, ANY, FRAMES, HUGE, SUM3, XOR, is_tupled, kind_processor, outcome, some_processor, some_programs, try_order,
    try_wrong)

SMALL = (2, 1, 0, (), 0)
FRAME = (2, 2, 2, (XOR, AND), 1)
SMALL_TEXT = "state none\n fence : 1 0\n fork * : 2 0"
EXTRA = ["a", "b", "c", "t0", "t1", "t2", "[", "]", "=", "\n", "*", ":", "0", "1", "2", "3", "4", "60", "if", "else",
    "end",
         "loop", "fence", "state", "none", "both", "op", "load", "store", "wrong", "fork", "frame", "table",
         "registers",
         "cells", "deep", "-", "A", "07", "a1", "1234567890", "123456789"]


def words_of(text):
    """(at, word), as the document tells words."""
    return [(found.start(), found[0]) for found in re.finditer(r"[a-z][a-z0-9]*|[0-9]+|[^ ]|\n",
        text) if found[0] != " "]


def joined(words):
    return " ".join(words)


def first_words(read, text):
    """(how many words of the text some text that can be read begins with; whether it can be read itself)."""
    told = outcome(read, text)
    if told[0] == "told":
        return len(words_of(text)), True
    assert told[0] is InvalidText, told
    starts = [at for at, _ in words_of(text)] + [len(text)]
    assert told[1] in starts, (text, told)
    return starts.index(told[1]), False


def completed(read, words, steps, endings):
    """Whether some text with these first words can be read: found by always going on with the first of these steps."""
    words = list(words)
    for _ in range(30):
        if any(outcome(read, joined(words + ending))[0] == "told" for ending in endings):
            return True
        for step in steps:
            if first_words(read, joined(words + [step]))[0] > len(words):
                words.append(step)
                break
        else:
            return False
    return False


class FrameTest(unittest.TestCase):
    def test_what_is_written_is_read_as_it_was(self):
        tables = list(itertools.product((0, 1), repeat=4))
        frames = [(2, 1, 0, (table, AND), 0) for table in tables] + FRAMES
        frames += [(3, 4, 3, (SUM3, (0, 1, 2) * 3, (2,) * 9, SUM3), 3), (2, 4, 2, (AND,) * 4, 3), (3, 1, 3, (), 0)]
        for frame in frames:
            told = read_frame(frame_text(frame))
            self.assertEqual(told, frame)
            self.assertIs(need_frame(told), told)

    def test_by_hand(self):
        for text, expected in (
                ("frame 2 registers 1 deep 0", SMALL), ("  frame 2registers 1  deep 0 ", SMALL),
                ("frame 3 registers 4 cells deep 3", (3, 4, 3, (), 3)),
                ("frame 2 registers 1 deep 0\ntable\n* * : 1", (2, 1, 0, ((1,) * 4,), 0)),
                ("frame 2 registers 1 deep 0\ntable\n**:1\n1 1:0\n1 *: 1", (2, 1, 0, ((1,) * 4,), 0)),
                ("frame 2 registers 1 deep 0\ntable\n0 * : 0\n* 1 : 1\n1 0 : 0", (2, 1, 0, ((0, 1, 0, 1),), 0)),
                ("frame 2 registers 1 deep 0" + "\ntable\n* * : 0" * 4, (2, 1, 0, ((0,) * 4,) * 4, 0))):
            self.assertEqual(read_frame(text), expected, text)

    def test_where_the_first_wrong_word_begins(self):
        head = "frame 2 registers 1 deep 0"
        for text, at in (
                ("", 0), ("   ", 3), ("\n", 0), (" \n", 1), ("frames", 0), ("frame", 5), ("frame ", 6), ("frame 4", 6),
                ("frame 02", 6), ("frame2 registers", 0), ("frame 2 register 1", 8), ("frame 2 registers 0 deep 0", 18),
                ("frame 2 registers 5", 18), ("frame 2 registers 1 cell", 20), ("frame 2 registers 1 cells cells", 26),
                ("frame 2 registers 1 deep 4", 25), ("frame 2 registers 1 deep 00", 25), (head + " ", None),
                (head + "\n", 27),
                (head + "\n\n", 27), (head + "\n0 0 : 1", 27), (head + " table", 27), (head + "\ntable", 32),
                (head + "\ntable\n", 33), (head + "\ntable\n0 * : 1", 40), (head + "\ntable\n0 * : 1\n", 41),
                (head + "\ntable\n0 * : 1\ntable", 41), (head + "\ntable\n2 * : 1", 33), (head + "\ntable\n0 * 1", 37),
                (head + "\ntable\n0 * : 2", 39), (head + "\ntable\n* * : 1\n", 41), (head + "\ntable\n* * : 1 1", 41),
                (head + "\ntable\n* * : 1234567890", 39), (head + "\ntable\n00 * : 1", 33), (head + "\nTable", 27),
                (head + "\ntable\n* * : 1\ntable", 46), (head + "\ntable\n* * : 0" * 4 + "\ntable", 83)):
            told = outcome(read_frame, text)
            self.assertEqual(told, ("told", SMALL) if at is None else (InvalidText, at), (text, len(text)))

    def test_first_words_are_those_of_some_text(self):
        tables = "\ntable\n* * : 0"
        steps = ["frame", "*", ":", "2", "1", "0", "registers", "deep", "table", "\n"]
        texts = ["frame 3 registers 2 cells deep 1" + tables, "frame 2 registers 1 deep 0" + tables * 2]
        check_first_words(self, read_frame, texts, steps, [[]])

    def test_any_values(self):
        for value in ANY:
            told = outcome(read_frame, value)
            if isinstance(value, str):
                self.assertEqual(told[0], InvalidText)
                self.assertGreaterEqual(told[1], 0)
            else:
                self.assertEqual(told, (InvalidText, -1), value)


def changed_words(words):
    """The words with one left out, put in, doubled or changed at each place."""
    for at in range(len(words) + 1):
        for extra in EXTRA:
            yield words[:at] + [extra] + words[at:]
        if at < len(words):
            yield words[:at] + words[at + 1:]
            yield words[:at] + [words[at]] * 2 + words[at + 1:]
            for extra in EXTRA:
                yield words[:at] + [extra] + words[at + 1:]


def check_first_words(test, read, texts, steps, endings):
    """What comes ahead of a word that can't stand is the begin of some text; with that word no such text is found."""
    seen = set()
    for text in texts:
        words = [word for _, word in words_of(text)]
        test.assertEqual(first_words(read, joined(words)), (len(words), True))
        for changed in changed_words(words):
            many, is_read = first_words(read, joined(changed))
            if not is_read:
                test.assertTrue(completed(read, changed[:many], steps, endings), (changed, many))
                if many < len(changed):
                    test.assertFalse(completed(read, changed[:many + 1], steps, endings), (changed, many))
            seen.add((many - len(changed), is_read))
    test.assertGreater(len(seen), 5)


class ProgramTest(unittest.TestCase):
    def test_what_is_written_is_read_as_it_was(self):
        for frame in FRAMES + [(2, 4, 2, (XOR, AND, XOR, AND), 1), (3, 4, 3, (), 0)]:
            for program in some_programs(frame, 40, most=6, depth=3, seed=7):
                told = read_program(frame, program_text(frame, program))
                self.assertEqual(told, program)
                self.assertIs(need_program(frame, told), told)

    def test_by_hand(self):
        for text, expected in (
                ("", ()), ("   ", ()), ("fence", (("fence",),)), ("a=t0 b b", (("op", 0, 0, 1, 1),)),
                ("b = [a]\n[a]=b", (("load", 1, 0), ("store", 0, 1))),
                ("[ b ] = a\nfence", (("store", 1, 0), ("fence",))),
                ("if b\nelse\nend", (("fork", 1, (), ()),)), ("loop 0\nend", (("loop", 0, ()),)),
                ("if a\nloop 4\nfence\nend\nelse\nif b\nfence\nelse\nend\nend\nfence",
                 (("fork", 0, (("loop", 4, (("fence",),)),), (("fork", 1, (("fence",),), ()),)), ("fence",)))):
            self.assertEqual(read_program(FRAME, text), expected, text)
        deep = "loop 1\n" * 500 + "end\n" * 499 + "end"
        told = read_program(SMALL, deep)
        for _ in range(500):
            told = told[0][2]
        self.assertEqual(told, ())

    def test_where_the_first_wrong_word_begins(self):
        for text, at in (
                ("\n", 0), (" \n", 1), ("fence\n", 6), ("fence\n\nfence", 6), ("fence fence", 6), ("if c", 3),
                ("if", 2),
                ("if a", 4), ("if a\n", 5), ("if a\nend", 5), ("if a\nelse\nelse", 10), ("if a\nelse\n", 10),
                ("if a else", 5),
                ("else", 0), ("end", 0), ("loop 5", 5), ("loop 00", 5), ("loop3\nend", 0), ("loop 1\nelse", 7),
                ("loop 1\nend\nend", 11),
                ("a = t2 a a", 4), ("a = t0 a c", 9), ("a = t00 a a", 4), ("a = t0 a", 8), ("a t0", 2), ("a = a", 4),
                ("a1", 0),
                ("c", 0), ("[c] = a", 1), ("[a = b", 3), ("[a] b", 4), ("a = [b", 6), ("a = [b] a", 8),
                ("a = t0 ab", 7), ("A", 0),
                ("a = t0 a b b", 11), ("if a\nelse\nend end", 14), ("-", 0), ("0", 0), ("fence1", 0), ("a = 1", 4)):
            self.assertEqual(outcome(read_program, FRAME, text), (InvalidText, at), (text, len(text)))

    def test_what_the_frame_does_not_have(self):
        none, dry, wet = SMALL, (2, 1, 0, (AND,), 0), (2, 1, 2, (), 0)
        for frame, text, at in (
                (none, "a = t0 a a", 0), (none, "[a] = a", 0), (none, "b", 0), (dry, "a = t0 a a", None),
                (dry, "a = [a]", 4),
                (dry, "[a] = a", 0), (dry, "a = t1 a a", 4), (wet, "a = t0 a a", 4), (wet, "a = [a]", None),
                (wet, "[a] = a", None), (wet, "b = [a]", 0), (dry, "if b", 3), (none, "if a\nelse\nend", None)):
            told = outcome(read_program, frame, text)
            self.assertEqual(told if at is not None else told[0], "told" if at is None else (InvalidText, at),
                (frame, text))

    def test_first_words_are_those_of_some_text(self):
        steps = ["end", "else", "a", "t0", "]", "=", "1", "fence", "\n"]
        texts = ["if a\na = t0 a b\nelse\nloop 2\n[a] = b\nend\nend", "a = [b]\nfence\nloop 0\nend",
            "fence\nif b\nelse\nend"]
        check_first_words(self, lambda text: read_program(FRAME, text), texts, steps, [[]])

    def test_any_values(self):
        for value in ANY:
            if not isinstance(value, str):
                self.assertEqual(outcome(read_program, SMALL, value), (InvalidText, -1), value)
        try_wrong(self, read_program, (SMALL, ""), {0: InvalidFrame, 1: InvalidText})
        try_order(self, read_program, (SMALL, ""), {0: (None, (InvalidFrame, -1)), 1: (None, (InvalidText, -1))})


class ProcessorTest(unittest.TestCase):
    def test_what_is_written_is_read_as_it_was(self):
        draw = random.Random(8)
        for frame in FRAMES + [(2, 2, 2, (XOR, AND), 0), (3, 1, 3, (), 2), (2, 1, 0, (), 2)]:
            for states in (1, 2, 3, 12, 60):
                for processor in (
                        some_processor(draw, events_many(frame), states),
                        kind_processor(draw, frame_events(frame), states)):
                    told = read_processor(frame, processor_text(frame, processor))
                    self.assertEqual(told, processor)
                    self.assertIs(need_processor(frame, told), told)
        great = ((3,), (((999999999, 0),) * 3,))
        self.assertEqual(read_processor(SMALL, processor_text(SMALL, great)), great)
        self.assertEqual(outcome(read_processor, SMALL, processor_text(SMALL, ((3,), (((10 ** 9, 0),) * 3,)))),
            (InvalidText, 20))

    def test_by_hand(self):
        told = ((0,), (((1, 0), (2, 0), (2, 0)),))
        for text, expected in (
                (SMALL_TEXT, told), ("state none\nfork*:2 0\nfence:1 0", told),
                (" state none \nfork 1:2 0\nfork 0:2 0\nfence:1 0", told),
                ("state none\nfence:7 59\nfork 0:1 0\nfence:1 0\nfork *:2 0", told),
                ("state first\nfence : 1 1\nfork * : 1 0\nstate second\nfork * : 3 1\nfence : 1 0\nfork 0 : 4 0",
                 ((1, 2), (((1, 1), (1, 0), (1, 0)), ((1, 0), (4, 0), (3, 1)))))):
            self.assertEqual(read_processor(SMALL, text), expected, text)
        frame = (2, 1, 2, (AND,), 1)
        text = ("state both\nop 0 * * : 1 0\nop 0 * 1 : 2 0\nload 1 * : 3 0\nload 0 * : 4 0\nstore * * : 5 0\n"
                "wrong op 0 * * : 6 0\nwrong load * 0 : 7 0\nwrong load * 1 : 8 0\nfence : 1 0\nfork * : 9 0")
        row = read_processor(frame, text)[1][0]
        self.assertEqual([beats for beats, _ in row],
            [1, 2, 1, 2, 4, 4, 3, 3, 5, 5, 5, 5, 1, 9, 9, 6, 6, 6, 6, 7, 8, 7, 8])

    def test_where_the_first_wrong_word_begins(self):
        for text, at in (
                ("", 0), ("  ", 2), ("\n", 0), ("fence", 0), ("state", 5), ("state 0", 6), ("state none", 10),
                ("state none\n", 11),
                ("state none\n\n", 11), ("state none fence", 11), ("state none\nstate", 11), ("state none\nop", 11),
                ("state none\nwrong", 11), ("state none\nload", 11), ("state none\nfork 2", 16),
                ("state none\nfork : 1 0", 16),
                ("state none\nfence 1", 17), ("state none\nfence : 0", 19), ("state none\nfence : 01", 19),
                ("state none\nfence : 1 60", 21), ("state none\nfence : 1 00", 21), ("state none\nfence : 1", 20),
                ("state none\nfence : 1 0\nstate", 23), ("state none\nfence : 1 0\nfork 0 : 1 0", 35),
                (SMALL_TEXT + "\n", 38), (SMALL_TEXT + " ", None), (SMALL_TEXT + " 1", 38),
                (SMALL_TEXT + "\nstate", 43),
                (SMALL_TEXT + "\nfence : 1 1", 49), (SMALL_TEXT + "\nfence : 1 59\nfence : 1 0", None),
                ("state none\nfence : 1 0\nfork * : 2 1", 35), ("state none\nfence : 1 1\nfork * : 2 0", 35),
                ("state none\nfence : 1234567890 0", 19), ("state none\nfence : 123456789 1", 30),
                (SMALL_TEXT + "\n\nfence : 1 0", 38)):
            told = outcome(read_processor, SMALL, text)
            self.assertEqual(told if at is not None else told[0], "told" if at is None else (InvalidText, at),
                (text, len(text)))

    def test_what_the_frame_does_not_have(self):
        heads = ["op 0 * *", "op 1 * *", "load * *", "store * *", "wrong op 0 * *", "wrong op 1 * *", "wrong load * *",
            "wrong store * *"]
        for frame, lengths in (
                ((2, 1, 0, (), 1), (0,) * 8), ((2, 1, 0, (AND,), 0), (13, 3, 0, 0, 0, 0, 0, 0)),
                ((2, 1, 0, (AND,), 1), (13, 3, 0, 0, 19, 9, 6, 6)), ((2, 1, 2, (), 1), (0, 0, 13, 14, 6, 6, 19, 6)),
                ((2, 1, 2, (), 0), (0, 0, 13, 14, 0, 0, 0, 0)),
                ((2, 1, 2, (AND, XOR), 3), (13, 13, 13, 14, 19, 19, 19, 6))):
            for head, length in zip(heads, lengths):
                told = outcome(read_processor, frame, f"state none\n{head} : 1 60")
                self.assertEqual(told, (InvalidText, 11 + length), (frame, head))
        frame = (3, 1, 0, (SUM3,), 0)
        self.assertEqual(outcome(read_processor, frame, "state none\nop 0 2 3"), (InvalidText, 18))
        self.assertEqual(outcome(read_processor, SMALL, "state none\nfork 02"), (InvalidText, 16))

    def test_sixty_states_and_no_more(self):
        one = "state none\nfence : 1 59\nfork * : 1 0"
        sixty = "\n".join([one] * 60)
        self.assertEqual(len(read_processor(SMALL, sixty)[0]), 60)
        self.assertEqual(outcome(read_processor, SMALL, sixty + "\n" + one), (InvalidText, len(sixty) + 1))
        self.assertEqual(outcome(read_processor, SMALL, "\n".join([one] * 59)),
            (InvalidText, len(sixty) - len(one) - 1))
        self.assertEqual(len(read_processor(SMALL, sixty + "\nfence : 2 0")[0]), 60)

    def test_each_event_must_be_told(self):
        draw = random.Random(4)
        for frame in FRAMES[:6]:
            text = processor_text(frame, some_processor(draw, events_many(frame), 2))
            lines = text.split("\n")
            for at, line in enumerate(lines):
                told = outcome(read_processor, frame, "\n".join(lines[:at] + lines[at + 1:]))
                # Where it isn't told again by others no text can go on with a further state.
                if told[0] == "told":
                    self.assertNotIn("fence", line)
                if "state" not in line:
                    twice = "\n".join(lines[:at] + [line, line] + lines[at + 1:])
                    self.assertEqual(read_processor(frame, twice), read_processor(frame, text))

    def test_first_words_are_those_of_some_text(self):
        frame = (2, 1, 0, (AND,), 1)
        rest = "\n op 0 * * : 1 0 \n fence : 1 0 \n fork * : 1 0 \n wrong op 0 * * : 1 0".split(" ")
        # Numbers of later states may stand: so many states are put behind that there are these, too.
        endings = [[], rest] + [begin + ["\n", "state", "none"] + rest + (["\n", "state", "none"] + rest) * 3 for begin in ([], rest)]
        steps = ["state", "none", "*", ":", "1", "0", "op", "\n"]
        processor = ((0,), (((1, 0),) * 3 + ((2, 0),) * 8,))
        check_first_words(self, lambda text: read_processor(frame, text), [processor_text(frame, processor)], steps,
            endings)

    def test_any_values(self):
        good = (SMALL, SMALL_TEXT)
        for value in ANY:
            if not isinstance(value, str):
                self.assertEqual(outcome(read_processor, SMALL, value), (InvalidText, -1), value)
        try_wrong(self, read_processor, good, {0: InvalidFrame, 1: InvalidText})
        try_order(self, read_processor, good, {0: (None, (InvalidFrame, -1)), 1: (None, (InvalidText, -1))})
        self.assertTrue(is_tupled(read_processor(*good)))
        self.assertEqual(read_processor(frame=SMALL, text=SMALL_TEXT), read_processor(*good))


class BlanksTest(unittest.TestCase):
    def test_blanks_part_and_tell_nothing(self):
        draw = random.Random(12)
        frame = (2, 2, 2, (XOR, AND), 1)
        program = some_programs(frame, 12, most=6, depth=2, seed=3)[-1]
        processor = some_processor(draw, events_many(frame), 2)
        for read, text, expected in (
                (read_frame, frame_text(frame), frame),
                (lambda text: read_program(frame, text), program_text(frame, program), program),
                (lambda text: read_processor(frame, text), processor_text(frame, processor), processor)):
            words = [word for _, word in words_of(text)]
            for _ in range(20):
                # Some blanks behind each word, none at first; where two words would be read as one they are parted.
                some = " " * draw.randrange(3)
                for word in words:
                    needed = 1 if some[-1:].isalnum() and word[0].isalnum() else 0
                    some += " " * draw.randrange(needed, 4) + word
                self.assertEqual([word for _, word in words_of(some)], words)
                self.assertEqual(read(some + " " * draw.randrange(3)), expected)
            tight = re.sub(r" *([^a-z0-9 ]) *", r"\1", joined(words))
            self.assertEqual(read(tight), expected)
            self.assertEqual(read("".join(word + "   " for word in words)), expected)


if __name__ == "__main__":
    unittest.main()
