"""The section 'The interface': each name and how many arguments it takes."""

import importlib
import inspect
import unittest

ARGUMENTS = {
    "keys": {"is_thing": 1, "is_key": 1, "is_row": 1, "worths": 2, "told": 3, "turned": 1, "all_things": 0},
    "judging": {"form": 1, "alike": 2, "parting": 2, "unkept": 2, "keeps": 2, "classes": 1, "tie": 1,
                "is_whole_order": 1, "ties_of": 1, "deciders": 1, "silent": 1, "needless": 1, "short": 1},
    "lists": {"places": 2, "ordered": 2, "is_ordered": 2, "runs": 2, "crossings": 2, "merged": 3, "turns": 2,
              "first_place": 3, "last_place": 3, "groups": 2, "best": 3, "list_told": 3},
}


class Interface(unittest.TestCase):
    def test_names_and_arguments(self):
        for module, functions in ARGUMENTS.items():
            found = importlib.import_module("keyorders." + module)
            for name, many in functions.items():
                self.assertEqual(len(inspect.signature(getattr(found, name)).parameters), many, (module, name))
