"""The names, arguments and places of what the landed modules tell."""

import importlib
import inspect
import unittest

PARAMETERS = {
    "crossings": {"least_lots": "many lots", "crossings": "many lots", "are_crossings": "many lots others"},
    "forms": {
        "need_size": "value", "need_table": "size value", "lines_sheet": "size lines", "sheet_lines": "size sheet",
        "wide_lines": "size sheet"},
    "programs": {
        "need_frame": "value", "all_data": "frame", "need_datum": "frame value", "need_program": "frame value",
        "unrolled": "frame program"},
    "choosing": {"choosing_paper": "tables", "choosing_holds": "tables value"},
    "runs": {
        "run_steps": "frame program datum", "datum_behind": "frame program datum",
        "trace_of": "frame program datum lot", "traces_parts": "frame program data lot", "step_atoms": "step",
        "unlike_atoms": "frame program one other"},
    "compiler": {
        "open_classes": "frame places", "silent_paper": "frame lot classes places program",
        "silent_holds": "frame lot classes places program value"},
    "events": {
        "frame_events": "frame", "event_number": "frame event", "events_many": "frame",
        "need_processor": "frame value", "view_from": "frame processor state program datum",
        "view_of": "frame processor program datum", "read_step": "frame processor state step",
        "read_events": "frame processor state numbers"},
    "forkless": {
        "straightened": "frame way program", "straight_values": "frame steps datum",
        "straight_paper": "frame lot data program", "straight_holds": "frame lot data program value"},
    "traces": {
        "spot_promises": "frame program", "greatest_promise": "frame program secrets",
        "greatest_secrets": "frame program lot", "loud_data": "frame program secrets lot",
        "is_quiet": "frame program secrets lot", "promise_on": "frame program data", "deals": "frame program"},
    "caches": {
        "cache_views": "cache row", "cache_lines": "cache row", "first_in": "lines", "least_recent": "lines",
        "stay_most": "cache", "least_cap": "cache", "cache_processor": "frame cache guess"},
    "closed": {"wide_paper": "frame processor lot", "wide_holds": "frame processor lot value"},
    "code": {
        "loud_sides": "frame program lot classes", "fenced_program": "frame program sides",
        "compiled": "frame lot classes places program", "compiled_holds": "frame lot classes places program value"},
    "court": {
        "flat_rows": "frame", "flat_program": "frame program datum", "court_paper": "frame processor lot",
        "is_kept": "frame processor lot", "fewest_steps": "frame processor lot",
        "court_holds": "frame processor lot value"},
    "processors": {
        "alike_parts": "frame processor", "parting_row": "frame processor one other",
        "least_processor": "frame processor", "put_beside": "frame one other",
        "telling_processor": "frame program one other"},
    "texts": {"frame_text": "frame", "program_text": "frame program", "processor_text": "frame processor"},
    "values": {
        "read_atoms": "frame processor", "states_paper": "frame processor", "states_hold": "frame processor value"},
    "bargain": {
        "loudest": "frame lot", "is_loudest": "frame processor lot",
        "parting_processor": "frame program one other lot"},
    "leaks": {
        "leak_holds": "frame processor lot value", "leak_within": "frame processor lot",
        "least_leaks": "frame processor", "least_promises": "frame processor", "both_paper": "frame processor",
        "both_hold": "frame processor value"},
    "outlines": {
        "compared": "size registers choices deep outline", "compared_atoms": "choices deep outline",
        "coarse_table": "table up", "finer": "frame processor tables up"},
    "passes": {
        "meaning_gap": "frame rows others", "rule_paper": "frame rows others lot",
        "rule_holds": "frame rows others lot value", "greatest_lot": "frame rows others lot",
        "keeps_always": "frame rows others", "fewest_rows": "frame rows lot most",
        "put_instead": "frame program rows others"},
    "patterns": {
        "row_pattern": "row", "access_ages": "row cap", "parting_cache": "one other", "cap_rows": "cache cap"},
    "places": {
        "loud_sites": "frame program secrets", "hidden_spots": "frame processor program",
        "shielded_spots": "frame processor program", "covered_lots": "frame processor program"},
    "reading": {"read_frame": "text", "read_program": "frame text", "read_processor": "frame text"},
    "several": {
        "ever_paper": "frame processor lot", "is_kept_ever": "frame processor lot",
        "ever_holds": "frame processor lot value", "late_processor": "", "secret_classes": "frame program lot deals",
        "telling_inputs": "frame program lot deals", "asks_paper": "frame program lot deals",
        "asks_hold": "frame program lot deals value", "shares_paper": "frame program lot deals",
        "shares_hold": "frame program lot deals value", "sum_deals": "frame many"},
    "watchers": {
        "need_watcher": "value", "told_by": "watcher view", "seen_leaks": "frame processor watcher",
        "seen_within": "frame processor watcher lot", "machine_paper": "watcher most",
        "machine_holds": "watcher most value", "blind_processor": "watcher most"},
    "amounts": {
        "shown_processor": "frame program lot parts", "most_views": "frame program data lot",
        "looks_alone": "frame processor lot", "single_views": "frame program data lot",
        "single_processor": "frame program data lot", "hidden_guess": ""},
    "depths": {
        "promise_depth": "frame processor lot", "depth_paper": "frame processor lot",
        "depth_holds": "frame processor lot value", "atom_depths": "frame processor",
        "least_at": "frame processor deep", "latest_processor": "frame states"},
    "probes": {
        "probe_leaks": "frame processor", "probe_within": "frame processor lot", "order_paper": "frame one other",
        "order_holds": "frame one other value", "views_paper": "frame one other"},
    "sides": {
        "whole_view": "frame guesser parts program datum", "beside_guesser": "frame guesser part",
        "whole_paper": "frame guesser parts lot", "whole_holds": "frame guesser parts lot value",
        "whole_leaks": "frame guesser parts", "is_guarded": "frame guesser lot", "sure_paper": "frame part lot",
        "guarded_paper": "frame part lot", "sure_holds": "frame part lot value",
        "guarded_holds": "frame part lot value",
        "partner": "frame part", "stands_paper": "frame part other", "stands_hold": "frame part other value"},
    "fences": {
        "deep_run": "frame deep program datum", "cut_program": "frame program many",
        "cut_depth": "frame processor lot", "fence_choices": "frame program lot data",
        "put_fences": "frame program choices"},
    "looks": {"look_holds": "value", "make_look": "word question", "wrong_looks": "values"},
    "bench": {"bench_behind": "frame processor program data deeds"},
}

# For each class its module, what it is made of, its methods with theirs, and its attributes.
CLASSES = {
    "Bench": ("bench", "frame processor program data", {
        "do_deed": "deed", "leaks": "", "promises": "", "views": "", "greatest": "", "verdict": ""},
        "frame processor program data deeds anew"),
    "Live": ("live", "frame processor program data", {
        "do_deed": "deed", "undo_deed": "", "redo_deed": "", "verdict_then": "number", "verdict_if": "number deed",
        "compiled_now": "lot"}, "bench deeds"),
    "Desk": ("desk", "", {"say": "command"}, "live"),
}
SMALL = (2, 1, 0, (), 0)
STILL = ((0,), (((1, 0),) * 3,))


def parameters_of(function):
    return " ".join(inspect.signature(function).parameters)


class InterfaceTest(unittest.TestCase):
    def test_names_and_parameters(self):
        for name, functions in PARAMETERS.items():
            module = importlib.import_module("leastpromise." + name)
            for word, parameters in functions.items():
                function = getattr(module, word)
                self.assertEqual(function.__module__, module.__name__, word)
                self.assertEqual(parameters_of(function), parameters, word)

    def test_classes(self):
        for word, (name, made_of, methods, attributes) in CLASSES.items():
            own = getattr(importlib.import_module("leastpromise." + name), word)
            self.assertEqual((own.__module__, own.__bases__), ("leastpromise." + name, (object,)))
            self.assertEqual(parameters_of(own), made_of)
            for method, parameters in methods.items():
                self.assertIn(method, vars(own), word)
                self.assertEqual(parameters_of(vars(own)[method]), ("self " + parameters).strip(), method)
            thing = own(*([SMALL, STILL, (), []] if made_of else []))
            self.assertLessEqual(set(attributes.split(" ")), set(vars(thing)))
            for gone_through in (iter, len, list, lambda thing: thing[0]):
                self.assertRaises(TypeError, gone_through, thing)


if __name__ == "__main__":
    unittest.main()
