"""The names, arguments and places of what the landed modules tell."""

import importlib
import inspect
import unittest

PARAMETERS = {
    "crossings": {"least_lots": "many lots", "crossings": "many lots", "are_crossings": "many lots others"},
    "forms": {
        "need_size": "value", "need_table": "size value", "lines_sheet": "size lines", "sheet_lines": "size sheet",
        "wide_lines": "size sheet"},
    "programs": {
        "need_frame": "value", "all_data": "frame", "need_datum": "frame value", "need_program": "frame value",
        "unrolled": "frame program"},
    "choosing": {"choosing_paper": "tables", "choosing_holds": "tables value"},
    "runs": {
        "run_steps": "frame program datum", "datum_behind": "frame program datum",
        "trace_of": "frame program datum lot", "traces_parts": "frame program data lot", "step_atoms": "step",
        "unlike_atoms": "frame program one other"},
    "compiler": {
        "open_classes": "frame places", "silent_paper": "frame lot classes places program",
        "silent_holds": "frame lot classes places program value"},
    "events": {
        "frame_events": "frame", "event_number": "frame event", "events_many": "frame",
        "need_processor": "frame value", "view_from": "frame processor state program datum",
        "view_of": "frame processor program datum", "read_step": "frame processor state step",
        "read_events": "frame processor state numbers"},
    "forkless": {
        "straightened": "frame way program", "straight_values": "frame steps datum",
        "straight_paper": "frame lot data program", "straight_holds": "frame lot data program value"},
    "traces": {
        "spot_promises": "frame program", "greatest_promise": "frame program secrets",
        "greatest_secrets": "frame program lot", "loud_data": "frame program secrets lot",
        "is_quiet": "frame program secrets lot", "promise_on": "frame program data", "deals": "frame program"},
    "caches": {
        "cache_views": "cache row", "cache_lines": "cache row", "first_in": "lines", "least_recent": "lines",
        "stay_most": "cache", "least_cap": "cache", "cache_processor": "frame cache guess"},
    "closed": {"wide_paper": "frame processor lot", "wide_holds": "frame processor lot value"},
    "code": {
        "loud_sides": "frame program lot classes", "fenced_program": "frame program sides",
        "compiled": "frame lot classes places program", "compiled_holds": "frame lot classes places program value"},
    "court": {
        "flat_rows": "frame", "flat_program": "frame program datum", "court_paper": "frame processor lot",
        "is_kept": "frame processor lot", "fewest_steps": "frame processor lot",
        "court_holds": "frame processor lot value"},
    "processors": {
        "alike_parts": "frame processor", "parting_row": "frame processor one other",
        "least_processor": "frame processor", "put_beside": "frame one other",
        "telling_processor": "frame program one other"},
    "texts": {"frame_text": "frame", "program_text": "frame program", "processor_text": "frame processor"},
    "values": {
        "read_atoms": "frame processor", "states_paper": "frame processor", "states_hold": "frame processor value"},
    "bargain": {
        "loudest": "frame lot", "is_loudest": "frame processor lot",
        "parting_processor": "frame program one other lot"},
    "leaks": {
        "leak_holds": "frame processor lot value", "leak_within": "frame processor lot",
        "least_leaks": "frame processor", "least_promises": "frame processor", "both_paper": "frame processor",
        "both_hold": "frame processor value"},
    "outlines": {
        "compared": "size registers choices deep outline", "compared_atoms": "choices deep outline",
        "coarse_table": "table up", "finer": "frame processor tables up"},
    "passes": {
        "meaning_gap": "frame rows others", "rule_paper": "frame rows others lot",
        "rule_holds": "frame rows others lot value", "greatest_lot": "frame rows others lot",
        "keeps_always": "frame rows others", "fewest_rows": "frame rows lot most",
        "put_instead": "frame program rows others"},
    "patterns": {
        "row_pattern": "row", "access_ages": "row cap", "parting_cache": "one other", "cap_rows": "cache cap"},
    "places": {
        "loud_sites": "frame program secrets", "hidden_spots": "frame processor program",
        "shielded_spots": "frame processor program", "covered_lots": "frame processor program"},
}


class InterfaceTest(unittest.TestCase):
    def test_names_and_parameters(self):
        for name, functions in PARAMETERS.items():
            module = importlib.import_module("leastpromise." + name)
            for word, parameters in functions.items():
                function = getattr(module, word)
                self.assertEqual(function.__module__, module.__name__, word)
                self.assertEqual(" ".join(inspect.signature(function).parameters), parameters, word)


if __name__ == "__main__":
    unittest.main()
