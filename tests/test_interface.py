"""The interface's opening: names and arguments are there as they stand."""

import importlib
import inspect
import unittest

from tests.helper import OF_NUMBER, OF_TEXT

FUNCTIONS = {
    "bitrail.bits": {
        "bits_of": ["number", "many"],
        "number_of": ["bits"],
        "drawn": ["bits"],
        "read_bits": ["text"],
        "changed": ["bits", "places"],
        "longest_run": ["bits"],
    },
    "bitrail.names": {
        "is_name": ["number"],
        "is_wanted": ["choice", "name"],
        "duel": ["names"],
    },
    "bitrail.keys": {
        "product": ["one", "other"],
        "divided": ["number", "key"],
    },
    "bitrail.checks": {
        "rest_of": ["bits"],
        "check_of": ["bits"],
        "rests_of": ["many"],
        "is_unseen": ["places"],
    },
    "bitrail.putting": {
        "put_in": ["bits"],
        "taken_out": ["wire"],
    },
    "bitrail.frames": {
        "frame_bits": ["name", "data"],
        "read_frame": ["bits"],
        "wire_of": ["name", "data"],
        "read_wire": ["wire"],
    },
    "bitrail.ears": {
        "ear": ["wrong"],
    },
    "bitrail.verdicts": {
        "verdicts": ["many", "votes", "wrong"],
        "parting": ["many", "votes", "places", "most"],
    },
    "bitrail.slips": {
        "slips": ["name", "data", "places", "most"],
    },
    "bitrail.things": {
        "cut": ["tag", "thing"],
    },
    "bitrail.strips": {
        "strips": ["bits", "first"],
        "read_strips": ["some"],
    },
}

CLASSES = {
    "bitrail.counts": {
        "Count": ([], {
            "fault": ["spoke"], "blame": [], "good": [], "number": [], "is_quiet": [], "is_off": [],
        }),
    },
    "bitrail.readers": {"Reader": ([], {"hear": ["bit"], "plain": [], "frame": []})},
    "bitrail.tails": {
        "ReadTail": (["votes"], {"says": [], "hear": ["bit"], "place": []}),
        "SpeakTail": (["votes"], {"says": [], "hear": ["bit"], "place": []}),
    },
    "bitrail.posts": {
        "Post": (["choice", "votes"], {
            "hand": ["name", "data"], "says": [], "hear": ["bit"], "stance": [], "waits": [], "got": [],
            "faults": [], "is_quiet": [], "is_off": [],
        }),
    },
    "bitrail.rails": {
        "Rail": (["choices", "votes"], {
            "hand": ["post", "name", "data"], "turn": ["wrong_posts"], "run": ["turns", "hearing"], "turns": [],
            "bits": [], "said": ["post"], "heard": ["post"], "events": [], "stance": ["post"], "waits": ["post"],
            "got": ["post"], "faults": ["post"], "is_quiet": ["post"], "is_off": ["post"],
        }),
    },
    "bitrail.joiners": {"Joiner": ([], {"take": ["piece"], "end": [], "is_open": []})},
    "bitrail.desk": {"Desk": ([], {"say": ["row"]})},
}


class InterfaceTest(unittest.TestCase):
    def test_functions_and_their_arguments(self):
        for module, functions in FUNCTIONS.items():
            for name, arguments in functions.items():
                function = getattr(importlib.import_module(module), name)
                self.assertEqual(list(inspect.signature(function).parameters), arguments, name)

    def test_classes_and_their_methods(self):
        for module, classes in CLASSES.items():
            for name, (arguments, methods) in classes.items():
                made = getattr(importlib.import_module(module), name)
                self.assertTrue(inspect.isclass(made), name)
                self.assertEqual(list(inspect.signature(made).parameters), arguments, name)
                for method, handed in methods.items():
                    found = inspect.signature(getattr(made, method)).parameters
                    self.assertEqual(list(found)[1:], handed, f"{name}.{method}")

    def test_values(self):
        self.assertEqual(importlib.import_module("bitrail.checks").KEY, 64647)

    def test_errors(self):
        errors = importlib.import_module("bitrail.errors")
        for name in OF_TEXT + OF_NUMBER + ("RailError",):
            self.assertTrue(inspect.isclass(getattr(errors, name)), name)
        self.assertEqual(errors.NoWire(at=3).at, 3)
        self.assertEqual(errors.NoRow(word=3).word, 3)


if __name__ == "__main__":
    unittest.main()
