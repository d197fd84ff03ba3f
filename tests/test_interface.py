import importlib
import inspect
import unittest

# The functions and methods of the interface that are there so far, with their parameters as they stand there.
FUNCTIONS = {
    "tieseek.names": {"good_name": "text", "number_shown": "number", "number_read": "text"},
    "tieseek.rows": {"rows_of": "text", "text_of": "rows", "done_row": "web row", "done_rows": "web rows"},
    "tieseek.webtext": {"shown_web": "web", "read_web": "rows"},
    "tieseek.pieces": {"pieces": "text"},
    "tieseek.pattern": {"read_pattern": "text", "shown_pattern": "tree", "turned": "tree", "marks_of": "tree"},
    "tieseek.machine": {
        "machine": "tree", "fits": "mark step", "rooms_behind": "made steps", "taken": "made steps",
        "run_of": "made steps",
    },
    "tieseek.walk": {"walked": "web start way", "steps_of": "web way", "turned_way": "way"},
    "tieseek.search": {
        "book": "web made start", "way_in": "made entries place", "ends_in": "made entries",
        "reached": "web tree start",
    },
}
METHODS = {
    ("tieseek.web", "Web"): {
        "add_thing": "name", "drop_thing": "name", "set_value": "name key number", "take_value": "name key",
        "add_tie": "start name end weight", "cut_tie": "number", "has_thing": "name", "things": "",
        "value": "name key", "values_of": "name", "ties": "", "tie": "number", "out_of": "name", "into": "name",
        "named": "name", "twin": "",
    },
}


def parameters(call):
    return list(inspect.signature(call).parameters)


class Interface(unittest.TestCase):
    def test_functions(self):
        for module, told in FUNCTIONS.items():
            for name, given in told.items():
                with self.subTest(module=module, name=name):
                    call = getattr(importlib.import_module(module), name)
                    self.assertEqual(parameters(call), given.split())

    def test_methods(self):
        for (module, owner), told in METHODS.items():
            for name, given in told.items():
                with self.subTest(owner=owner, name=name):
                    call = getattr(getattr(importlib.import_module(module), owner), name)
                    self.assertEqual(parameters(call), ["self"] + given.split())

    def test_defaults(self):
        web = importlib.import_module("tieseek.web").Web
        self.assertEqual(inspect.signature(web.add_tie).parameters["weight"].default, 0)
        self.assertEqual(parameters(web), [])


if __name__ == "__main__":
    unittest.main()
