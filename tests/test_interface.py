"""The names, arguments and places of what the landed modules tell."""

import importlib
import inspect
import unittest

PARAMETERS = {
    "crossings": {"least_lots": "many lots", "crossings": "many lots", "are_crossings": "many lots others"},
    "forms": {
        "need_size": "value", "need_table": "size value", "lines_sheet": "size lines", "sheet_lines": "size sheet",
        "wide_lines": "size sheet"},
    "programs": {
        "need_frame": "value", "all_data": "frame", "need_datum": "frame value", "need_program": "frame value",
        "unrolled": "frame program"},
    "choosing": {"choosing_paper": "tables", "choosing_holds": "tables value"},
    "runs": {
        "run_steps": "frame program datum", "datum_behind": "frame program datum",
        "trace_of": "frame program datum lot", "traces_parts": "frame program data lot", "step_atoms": "step",
        "unlike_atoms": "frame program one other"},
    "compiler": {
        "open_classes": "frame places", "silent_paper": "frame lot classes places program",
        "silent_holds": "frame lot classes places program value"},
    "events": {
        "frame_events": "frame", "event_number": "frame event", "events_many": "frame",
        "need_processor": "frame value", "view_from": "frame processor state program datum",
        "view_of": "frame processor program datum", "read_step": "frame processor state step",
        "read_events": "frame processor state numbers"},
    "forkless": {
        "straightened": "frame way program", "straight_values": "frame steps datum",
        "straight_paper": "frame lot data program", "straight_holds": "frame lot data program value"},
    "traces": {
        "spot_promises": "frame program", "greatest_promise": "frame program secrets",
        "greatest_secrets": "frame program lot", "loud_data": "frame program secrets lot",
        "is_quiet": "frame program secrets lot", "promise_on": "frame program data", "deals": "frame program"},
    "caches": {
        "cache_views": "cache row", "cache_lines": "cache row", "first_in": "lines", "least_recent": "lines",
        "stay_most": "cache", "least_cap": "cache", "cache_processor": "frame cache guess"},
}


class InterfaceTest(unittest.TestCase):
    def test_names_and_parameters(self):
        for name, functions in PARAMETERS.items():
            module = importlib.import_module("leastpromise." + name)
            for word, parameters in functions.items():
                function = getattr(module, word)
                self.assertEqual(function.__module__, module.__name__, word)
                self.assertEqual(" ".join(inspect.signature(function).parameters), parameters, word)


if __name__ == "__main__":
    unittest.main()
