"""[1], [2], [3] over the whole program: like calls tell like things, nothing handed in is changed or kept."""

import copy
import importlib
import inspect
import itertools
import unittest

from leastpromise import errors
from leastpromise.bench import Bench
from leastpromise.compiler import open_classes
from leastpromise.desk import Desk
from leastpromise.errors import PromiseError
from leastpromise.live import Live
from tests.samples import AND, ANY, XOR, is_tupled
from tests.test_interface import CLASSES, PARAMETERS

FRAME = (2, 2, 0, (XOR,), 1)
DRY = (2, 1, 0, (AND,), 1)
WET = (2, 1, 2, (AND,), 1)
RICH = (2, 3, 0, (XOR,), 1)
OP = ("op", 0, 0, 0, 1)
PROGRAM = (("fork", 0, (), (OP, OP)), ("loop", 2, (OP,)))
PROCESSOR = ((3, 1), (((1, 1),) * 4 + ((2, 0),) * 4 + ((1, 0),) * 3, ((1, 0),) * 9 + ((2, 1),) * 2))
SMALL, STILL = (2, 1, 0, (), 0), ((0,), (((1, 0),) * 3,))
DATA = ((0, 0), (0, 1))
CLASSES_OF_DATA = open_classes(FRAME, (0,))
MACHINE = ((0, 1), ((0, 1), (0, 1)))
CACHE = (((0, 0), 0, 1), ((1, 1), 1, 0))
TEXT = "state none\nfence : 1 0\nfork * : 1 0"
WAY = ((0, 0, 1), (0, 2, 3))
SIDE = (0, 1)

# For each function what it may be called with; lots, data and other sequences as lists.
CALLS = {
    "least_lots": (4, [[1, 2], [2], [0, 1]]), "crossings": (4, [[1, 2], [0]]),
    "are_crossings": (4, [[0], [1]], [[0, 1]]),
    "need_size": (2,), "need_table": (2, [0, 1, 1, 0]), "lines_sheet": (2, [[None, None, [1, 2]], [0, 1, 3]]),
    "sheet_lines": (2, [1, [2], [2], 1]), "wide_lines": (2, [1, 1, 2, 3]),
    "need_frame": (FRAME,), "all_data": (FRAME,), "need_datum": (FRAME, (0, 1)), "need_program": (FRAME, PROGRAM),
    "unrolled": (FRAME, PROGRAM),
    "choosing_paper": ([XOR, AND],), "choosing_holds": ([XOR, AND], ("way", ())),
    "run_steps": (FRAME, PROGRAM, (0, 1)), "datum_behind": (FRAME, PROGRAM, (0, 1)),
    "trace_of": (FRAME, PROGRAM, (0, 1), [0, 6]),
    "traces_parts": (FRAME, PROGRAM, [(0, 1), (0, 0)], [0, 6]), "step_atoms": ((("op", 0, 1, 0), ()),),
    "unlike_atoms": (FRAME, PROGRAM, (0, 0), (0, 1)),
    "open_classes": (FRAME, [0]), "silent_paper": (FRAME, [0], [[(0, 0), (0, 1)], [(1, 0)]], [0, 1], PROGRAM),
    "silent_holds": (FRAME, [0], [[(0, 0), (0, 1)]], [1], PROGRAM, ("way", ())),
    "frame_events": (FRAME,), "event_number": (FRAME, ("fence",)), "events_many": (FRAME,),
    "need_processor": (FRAME, PROCESSOR),
    "view_from": (FRAME, PROCESSOR, 1, PROGRAM, (0, 1)), "view_of": (FRAME, PROCESSOR, PROGRAM, (0, 1)),
    "read_step": (FRAME, PROCESSOR, 0, (("fence",), ())), "read_events": (FRAME, PROCESSOR, 0, [1, 10, 4]),
    "straightened": ((2, 2, 0, (AND, XOR), 1), None, ()), "straight_values": (FRAME, ((0, 0, 1),), (0, 1)),
    "straight_paper": (FRAME, [0], [(0, 0), (0, 1)], PROGRAM),
    "straight_holds": (FRAME, [], [(0, 0), (0, 1)], (OP,), ("way", (), (0, 1))),
    "spot_promises": (FRAME, PROGRAM), "greatest_promise": (FRAME, PROGRAM, [1]),
    "greatest_secrets": (FRAME, PROGRAM, [0]),
    "loud_data": (FRAME, (OP,), [0, 1], [0, 1]), "is_quiet": (FRAME, PROGRAM, [1], [0]),
    "promise_on": (FRAME, PROGRAM, [(0, 0), (0, 1)]), "deals": (FRAME, PROGRAM),
    "cache_views": (CACHE, [1, 2, 1]), "cache_lines": (CACHE, [1, 2, 1]), "first_in": (2,), "least_recent": (2,),
    "stay_most": (CACHE,), "least_cap": (CACHE,),
    "cache_processor": (WET, CACHE, 1),
    "wide_paper": (FRAME, PROCESSOR, [0, 1, 6]), "wide_holds": (FRAME, PROCESSOR, [0, 1, 6], ("kept", ())),
    "loud_sides": (FRAME, PROGRAM, [6], [[(0, 0), (0, 1)]]), "fenced_program": (FRAME, PROGRAM, [(0, 0), (0, 1)]),
    "compiled": (FRAME, [6], [[(0, 0), (0, 1)]], [0, 1], PROGRAM),
    "compiled_holds": (FRAME, [6], [[(0, 0), (0, 1)]], [0], PROGRAM, ("none", ())),
    "flat_rows": (FRAME,), "flat_program": (FRAME, PROGRAM, (0, 1)), "court_paper": (FRAME, PROCESSOR, [6]),
    "is_kept": (FRAME, PROCESSOR, [6]),
    "fewest_steps": (FRAME, PROCESSOR, [6]), "court_holds": (FRAME, PROCESSOR, [6], ("kept", ())),
    "alike_parts": (FRAME, PROCESSOR), "parting_row": (FRAME, PROCESSOR, 0, 1), "least_processor": (FRAME, PROCESSOR),
    "put_beside": (FRAME, PROCESSOR, PROCESSOR),
    "telling_processor": (FRAME, PROGRAM, (0, 0), (0, 1)),
    "frame_text": (FRAME,), "program_text": (FRAME, PROGRAM), "processor_text": (FRAME, PROCESSOR),
    "read_atoms": (RICH, PROCESSOR), "states_paper": (RICH, PROCESSOR), "states_hold": (RICH, PROCESSOR, ((), (), ())),
    "loudest": (FRAME, [0, 6]), "is_loudest": (FRAME, PROCESSOR, [0]),
    "parting_processor": (FRAME, PROGRAM, (0, 0), (0, 1), [1]),
    "leak_holds": (FRAME, PROCESSOR, [0], (PROGRAM, (0, 0), (0, 1))), "leak_within": (FRAME, PROCESSOR, [0, 1, 6, 7]),
    "least_leaks": (FRAME, PROCESSOR),
    "least_promises": (FRAME, PROCESSOR), "both_paper": (FRAME, PROCESSOR), "both_hold": (FRAME, PROCESSOR, ((), ())),
    "compared": (2, 3, ((0, 0, 1),), 0, ((0,), (((1, 0),) * 6,))),
    "compared_atoms": (((0, 0, 1),), 0, ((0,), (((1, 0),) * 6,))),
    "coarse_table": ((0, 0, 0, 0, 1, 1, 0, 1, 2), 1), "finer": (SMALL, STILL, [], 1),
    "meaning_gap": (FRAME, (OP, OP), ()), "rule_paper": (FRAME, (("fence",),), (), [6]),
    "rule_holds": (FRAME, (("fence",),), (), [6], ("keeps", ())),
    "greatest_lot": (FRAME, (("fence",),), (), [0, 6]), "keeps_always": (FRAME, (("fence",),), ()),
    "fewest_rows": (FRAME, (("fence",),), [6], 1),
    "put_instead": (FRAME, PROGRAM, (OP, OP), (OP, OP)),
    "row_pattern": ([7, 8, 7],), "access_ages": ([7, 8, 7], 2), "parting_cache": ([1, 2, 1], [1, 2, 2]),
    "cap_rows": (CACHE, 1),
    "loud_sites": (FRAME, PROGRAM, [0, 1]), "hidden_spots": (FRAME, PROCESSOR, PROGRAM),
    "shielded_spots": (FRAME, PROCESSOR, PROGRAM),
    "covered_lots": (FRAME, PROCESSOR, PROGRAM),
    "read_frame": ("frame 2 registers 1 deep 0",), "read_program": (SMALL, "fence"), "read_processor": (SMALL, TEXT),
    "ever_paper": (FRAME, PROCESSOR, [0, 6]), "is_kept_ever": (FRAME, PROCESSOR, [0, 6]),
    "ever_holds": (FRAME, PROCESSOR, [0, 6], ("kept", ((0, 0),))),
    "late_processor": (), "secret_classes": (FRAME, PROGRAM, [0], [[(0, 0)], [(1, 1)]]),
    "telling_inputs": (FRAME, PROGRAM, [0], [[(0, 0)], [(1, 1)]]),
    "asks_paper": (FRAME, PROGRAM, [0], [[(0, 0)], [(1, 1)]]),
    "asks_hold": (FRAME, PROGRAM, [0], [[(0, 0)], [(1, 1)]], (0, ("told", (0, 1)))),
    "shares_paper": (FRAME, PROGRAM, [0], [[(0, 0)], [(1, 1)]]),
    "shares_hold": (FRAME, PROGRAM, [0], [[(0, 0)], [(1, 1)]], ("even", ())), "sum_deals": (FRAME, 2),
    "need_watcher": (MACHINE,), "told_by": (MACHINE, [1, 2]), "seen_leaks": (FRAME, PROCESSOR, MACHINE),
    "seen_within": (FRAME, PROCESSOR, MACHINE, [0, 1, 6, 7]),
    "machine_paper": (MACHINE, 3), "machine_holds": (MACHINE, 3, ("sees", ())), "blind_processor": (MACHINE, 3),
    "shown_processor": (FRAME, (OP,), [0, 1], [[(0, 0)], [(1, 1), (1, 0)]]),
    "most_views": (FRAME, PROGRAM, [(0, 0), (1, 1)], [0]),
    "looks_alone": (FRAME, PROCESSOR, [0]), "single_views": (FRAME, PROGRAM, [(0, 0), (1, 1)], [6]),
    "single_processor": (FRAME, PROGRAM, [(0, 0), (1, 1)], [6]),
    "hidden_guess": (),
    "promise_depth": (FRAME, PROCESSOR, [0, 6]), "depth_paper": (FRAME, PROCESSOR, [0, 6]),
    "depth_holds": (FRAME, PROCESSOR, [0, 6], ("from", 0, (), None)),
    "atom_depths": (FRAME, PROCESSOR), "least_at": (FRAME, PROCESSOR, 2), "latest_processor": (FRAME, 2),
    "probe_leaks": (FRAME, PROCESSOR), "probe_within": (FRAME, PROCESSOR, [0, 1, 6, 7]),
    "order_paper": (FRAME, PROCESSOR, PROCESSOR),
    "order_holds": (FRAME, PROCESSOR, PROCESSOR, ("no more", ())), "views_paper": (FRAME, PROCESSOR, PROCESSOR),
    "whole_view": (FRAME, PROCESSOR, [PROCESSOR], PROGRAM, (0, 1)), "beside_guesser": (FRAME, PROCESSOR, PROCESSOR),
    "whole_paper": (FRAME, PROCESSOR, [PROCESSOR], [0]),
    "whole_holds": (FRAME, PROCESSOR, [PROCESSOR], [0], ("kept", ((),))),
    "whole_leaks": (FRAME, PROCESSOR, [PROCESSOR]), "is_guarded": (FRAME, PROCESSOR, [0]),
    "sure_paper": (FRAME, PROCESSOR, [0, 1]),
    "guarded_paper": (FRAME, PROCESSOR, [0, 1]), "sure_holds": (FRAME, PROCESSOR, [0, 1], ("sure", ())),
    "guarded_holds": (FRAME, PROCESSOR, [0, 1], ("sure", ())),
    "partner": (FRAME, PROCESSOR), "stands_paper": (FRAME, PROCESSOR, PROCESSOR),
    "stands_hold": (FRAME, PROCESSOR, PROCESSOR, ("stands", ())),
    "deep_run": (FRAME, 5, PROGRAM, (0, 1)), "cut_program": (FRAME, PROGRAM, 1),
    "cut_depth": (RICH, PROCESSOR, [0, 1, 6, 7]),
    "fence_choices": (FRAME, PROGRAM[:1], [6], [(0, 0), (0, 1)]), "put_fences": (FRAME, PROGRAM, [((0, 1), 1)]),
    "look_holds": (("court", (SMALL, STILL, ()), ("kept", ((((0,), 0), ((1,), 0)),))),),
    "make_look": ("court", [SMALL, STILL, []]), "wrong_looks": ([(), 1],),
    "bench_behind": (SMALL, STILL, (), [(0,)], [["state"], ["data", [(1,)]]]),
}


def with_tuples(value):
    """The value, its lists as tuples."""
    return tuple(with_tuples(part) for part in value) if isinstance(value, (list, tuple)) else value


def told_of(function, args):
    """What a call tells, a bench by what it is of; or its error."""
    try:
        told = function(*args)
    except PromiseError as error:
        return "error", error.__class__, vars(error)
    return shown(told) if isinstance(told, Bench) else told


def shown(bench):
    return bench.frame, bench.processor, bench.program, bench.data, bench.deeds, bench.anew, bench.verdict()


def functions():
    for name, told in PARAMETERS.items():
        module = importlib.import_module("leastpromise." + name)
        for word in told:
            yield word, getattr(module, word)


class WholeTest(unittest.TestCase):
    def calls(self):
        for word, function in functions():
            args = CALLS[word]
            if word == "straightened":
                from leastpromise.choosing import choosing_paper
                args = (args[0], choosing_paper(args[0][3])[1], (("fork", 0, (OP,), ()),))
            yield word, function, args

    def test_each_function_is_called(self):
        self.assertEqual({word for word, _ in functions()}, set(CALLS))
        self.assertGreater(len(CALLS), 125)

    def test_like_calls_tell_like_things(self):
        first = {word: told_of(function, args) for word, function, args in self.calls()}
        for word, function, args in reversed(list(self.calls())):
            again = told_of(function, args)
            self.assertEqual(again, first[word], word)
            self.assertEqual(told_of(function, with_tuples(args)), again, word)
            named = dict(zip(inspect.signature(function).parameters, args))
            self.assertEqual(told_of(lambda: function(**named), ()), again, word)
            if not isinstance(again, tuple) or again[:1] != ("error",):
                self.assertTrue(is_tupled(again), word)

    def test_nothing_handed_in_is_changed(self):
        for word, function, args in self.calls():
            handed = copy.deepcopy(args)
            told = told_of(function, handed)
            self.assertEqual(repr(handed), repr(args), word)
            # Later changes of what was handed in have no effect on what was told.
            kept = repr(told)
            for part in handed:
                empty(part)
            self.assertEqual(repr(told), kept, word)

    def test_wrong_things_raise_errors_of_the_package_alone(self):
        for word, function, args in self.calls():
            for at in range(len(args)):
                for value in ANY[::3]:
                    if word == "step_atoms":
                        continue
                    told = told_of(function, args[:at] + (value,) + args[at + 1:])
                    if isinstance(told, tuple) and told[:1] == ("error",):
                        self.assertTrue(issubclass(told[1], PromiseError))

    def test_earlier_arguments_are_wrong_first(self):
        # With all behind wrong, too, an argument raises what it raises alone.
        own_orders = {"put_beside", "stands_paper", "step_atoms"}
        for word, function, args in self.calls():
            names = list(inspect.signature(function).parameters)
            for at in range(len(args)):
                if names[at] in ("value", "view", "rows", "others", "one", "other", "outline") or word in own_orders:
                    continue
                wrong = told_of(function, args[:at] + ({},) + args[at + 1:])
                if isinstance(wrong, tuple) and wrong[:1] == ("error",):
                    both = told_of(function, args[:at] + ({},) * (len(args) - at))
                    self.assertEqual(both, wrong, (word, at))

    def test_objects(self):
        things = [Bench(SMALL, STILL, (), []), Live(SMALL, STILL, (), []), Desk()]
        things += [getattr(errors, word)(0) for word in vars(errors) if word.startswith("Invalid") and word != "InvalidCommand"]
        things += [errors.InvalidCommand(), errors.Refused("word")]
        for one, other in itertools.combinations(things, 2):
            self.assertFalse(one == other)
        for thing in things:
            self.assertRaises(TypeError, iter, thing)
            self.assertRaises(TypeError, len, thing)
        for word in CLASSES:
            self.assertIn(word, [thing.__class__.__name__ for thing in things])

    def test_bools_are_no_integers(self):
        for word, function, args in self.calls():
            for at, part in enumerate(args):
                if type(part) is int and part in (0, 1):
                    told = told_of(function, args[:at] + (bool(part),) + args[at + 1:])
                    self.assertEqual(told[0], "error", (word, at))


def empty(value):
    """Takes all out of lists, at any depth."""
    if isinstance(value, (list, tuple)):
        for part in value:
            empty(part)
    if isinstance(value, list):
        value.clear()


if __name__ == "__main__":
    unittest.main()
