"""The section 'The interface': each name and how many arguments it takes."""

import importlib
import inspect
import unittest

from keyorders.shelves import Shelf

ARGUMENTS = {
    "keys": {"is_thing": 1, "is_key": 1, "is_row": 1, "worths": 2, "told": 3, "turned": 1, "all_things": 0},
    "judging": {"form": 1, "alike": 2, "parting": 2, "unkept": 2, "keeps": 2, "classes": 1, "tie": 1,
                "is_whole_order": 1, "ties_of": 1, "deciders": 1, "silent": 1, "needless": 1, "short": 1},
    "lists": {"places": 2, "ordered": 2, "is_ordered": 2, "runs": 2, "crossings": 2, "merged": 3, "turns": 2,
              "first_place": 3, "last_place": 3, "groups": 2, "best": 3, "list_told": 3},
    "tables": {"is_table": 1, "table_of": 2, "ranks": 1, "why_none": 1, "is_why_none": 2},
    "pairs": {"closed": 1, "ring": 1, "bare": 1, "orders": 2, "least_order": 2, "levels": 2, "free_pairs": 2},
    "learning": {"plain_keys": 0, "agreeing": 1, "told_by": 1, "unlike_rows": 1},
    "shelves": {"Shelf": 1},
    "papers": {"paper": 2, "is_paper": 3, "fewest": 1},
    "nesting": {"nested": 4, "merged_all": 2},
    "fronts": {"beats": 3, "front": 2, "layers": 2, "agreed": 2},
    "texts": {"row_text": 1, "read_row": 1},
}
SHELF_METHODS = {"things": 0, "row": 0, "put": 1, "take": 1, "order": 1, "around": 1, "between": 2, "back": 0,
                 "forth": 0}


class Interface(unittest.TestCase):
    def test_names_and_arguments(self):
        for module, functions in ARGUMENTS.items():
            found = importlib.import_module("keyorders." + module)
            for name, many in functions.items():
                self.assertEqual(len(inspect.signature(getattr(found, name)).parameters), many, (module, name))

    def test_the_methods_of_a_shelf_are_its_own(self):
        for name, many in SHELF_METHODS.items():
            self.assertIn(name, vars(Shelf))
            self.assertEqual(len(inspect.signature(getattr(Shelf(()), name)).parameters), many, name)
