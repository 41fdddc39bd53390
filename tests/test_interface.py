"""All names that the document's interface lists stand in the modules named, with as many arguments."""

import importlib
import inspect
import unittest

FUNCTIONS = {
    "rows": {"is_name": 1, "is_half": 1, "is_row": 1, "is_book": 1, "book_with": 3, "book_without": 2, "row_in": 2},
    "booktexts": {"show_book": 1, "read_book": 1},
    "partings": {"partings_of": 1, "many_partings": 1, "parting_at": 2, "number_of": 2},
    "halves": {"row_by": 2, "fits_row": 2, "other_half": 2},
    "crossings": {"crossing_of": 1},
    "trees": {"tree_of": 1, "way_on": 3},
    "seen": {"seen_at": 3},
    "rules": {"links_of": 1, "rules_of": 1, "rule_says": 2},
    "fits": {"fit_told": 1, "is_fit": 2},
    "fitnumbers": {"many_fits": 1, "fit_at": 2, "number_of_fit": 2, "sure_at": 3},
    "fewest": {"halves_in": 1, "fewest": 1, "fewest_fit": 1},
    "settling": {"settled": 3, "best_order": 2},
    "families": {"is_family": 1, "whole_tellings": 1},
    "crossed": {"crossed": 1},
    "lacking": {"good_fills": 1, "marks_let": 1},
    "likenesses": {"carried": 2, "carried_book": 2, "likenesses": 2},
    "checker": {"holds": 2},
    "papers": {"paper_of_halves": 1, "paper_of_book": 1, "paper_of_many": 1, "paper_of_fewest": 1, "paper_of_family": 1, "paper_of_two": 2},
    "deskwords": {},
}
CLASSES = {
    "keepers": {"Keeper": {"__init__": 2, "add": 3, "strike": 2, "undo": 1, "book": 1, "numbers": 1, "first_barred": 1}},
    "desk": {"Desk": {"__init__": 2, "say": 2}},
}


class Interface(unittest.TestCase):
    def test_functions(self):
        for module, functions in FUNCTIONS.items():
            found = importlib.import_module("hidhalves." + module)
            for name, many in functions.items():
                function = getattr(found, name)
                self.assertEqual(function.__module__, "hidhalves." + module)
                self.assertEqual(len(inspect.signature(function).parameters), many, name)

    def test_classes(self):
        for module, classes in CLASSES.items():
            found = importlib.import_module("hidhalves." + module)
            for name, methods in classes.items():
                for method, many in methods.items():
                    self.assertEqual(len(inspect.signature(vars(getattr(found, name))[method]).parameters), many, method)


if __name__ == "__main__":
    unittest.main()
