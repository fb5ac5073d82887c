import importlib
import inspect
import unittest

FUNCTIONS = {
    "pressluck.shares": {
        "is_whole": ["thing"],
        "share": ["top", "bottom"],
        "plus": ["one", "other"],
        "minus": ["one", "other"],
        "times": ["one", "other"],
        "over": ["one", "other"],
        "under": ["one", "other"],
        "show_share": ["one"],
        "read_share": ["text"],
    },
    "pressluck.tables": {
        "table_of": ["rows"],
        "added": ["one", "other"],
        "mean": ["table"],
        "share_from": ["table", "number"],
    },
    "pressluck.pools": {"throws": ["pool"], "pool_table": ["pool"]},
    "pressluck.pooltexts": {"read_pool": ["text"], "show_pool": ["pool"]},
    "pressluck.ends": {"levels": ["board"], "ring": ["board"], "stays": ["board"]},
    "pressluck.parts": {
        "reached": ["board", "start"],
        "way_to": ["board", "start", "goal"],
        "parts": ["board"],
    },
    "pressluck.lines": {"solved": ["rows", "right"]},
    "pressluck.worths": {"worths_of": ["board", "picks"], "visits": ["board", "picks", "start"]},
    "pressluck.best": {"best": ["board"]},
    "pressluck.papers": {"misfits": ["board", "worths"], "slips": ["board", "worths", "picks"]},
    "pressluck.games": {"read_game": ["text"], "show_game": ["game"]},
    "pressluck.spread": {"spread": ["game"]},
    "pressluck.rules": {"read_rule": ["text"], "show_rule": ["rule"], "picks_by": ["game", "rule"]},
    "pressluck.judging": {"held_board": ["board", "picks", "who"], "judged": ["game", "rule", "who"]},
    "pressluck.alike": {"rounds": ["one", "other"], "alike": ["one", "first", "other", "second"]},
    "pressluck.plays": {"read_play": ["game", "text"]},
}
CLASSES = {
    "pressluck.errors": [
        "LuckError", "NoShare", "NoTable", "NoPool", "NoEnd", "TooMany",
        "NoGame", "NoWay", "NoRule", "NoStep", "NoPlay", "NoRow",
    ],
    "pressluck.plays": ["Play"],
    "pressluck.desk": ["Desk"],
}
METHODS = {
    ("pressluck.plays", "Play"): {
        "__init__": ["game"], "stands": [], "points": [], "open_ways": [], "say": ["word"], "throw": ["value"], "back": [],
        "shown": [],
    },
    ("pressluck.desk", "Desk"): {"__init__": [], "tell": ["row"]},
}


class TestInterface(unittest.TestCase):
    def test_functions_stand_in_their_modules_with_their_arguments(self):
        for module, functions in FUNCTIONS.items():
            for name, arguments in functions.items():
                with self.subTest(module=module, name=name):
                    function = getattr(importlib.import_module(module), name)
                    self.assertEqual(list(inspect.signature(function).parameters), arguments)
                    self.assertEqual(function.__module__, module)

    def test_classes_stand_in_their_modules(self):
        for module, names in CLASSES.items():
            for name in names:
                with self.subTest(module=module, name=name):
                    kind = getattr(importlib.import_module(module), name)
                    self.assertTrue(inspect.isclass(kind))
                    self.assertEqual(kind.__module__, module)

    def test_methods_stand_in_their_classes_with_their_arguments(self):
        for (module, kind), methods in METHODS.items():
            for name, arguments in methods.items():
                with self.subTest(module=module, kind=kind, name=name):
                    method = getattr(getattr(importlib.import_module(module), kind), name)
                    self.assertEqual(list(inspect.signature(method).parameters), ["self"] + arguments)


if __name__ == "__main__":
    unittest.main()
