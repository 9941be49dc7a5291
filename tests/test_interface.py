"""The interface, promise [19]: every name exists, with the arguments that the document shows."""

import importlib
import inspect
import unittest

from overlooks.line import Line

FUNCTIONS = {
    "rows": {
        "is_row": "thing", "ranks": "row", "mirrored": "row", "with_person": "row place height",
        "without": "row height",
    },
    "sights": {
        "sees": "row one other", "sights": "row", "exchanges": "row", "exchanged": "row pair",
        "run": "row pairs", "back": "pairs", "mover": "row pair",
    },
    "codes": {"codes": "row", "is_codes": "row thing", "row_with": "row codes"},
    "runs": {"runs": "row", "run_list": "row height", "free_people": "row"},
    "leading": {
        "leads": "one other", "bar": "one other", "differences": "one other", "steps": "one other",
        "shows_exchanges": "one other thing",
    },
    "numbers": {
        "count_rows": "row", "row_at": "row number", "number_of": "row other", "all_rows": "row",
    },
    "small": {"distance": "one other", "plan": "one other", "farthest": "row"},
    "lots": {
        "count_lots": "many", "lot_sizes": "many", "signature": "row", "is_signature": "many thing",
        "lot_row": "many signature", "signature_at": "many number",
        "signature_number": "many signature",
    },
    "chances": {
        "chance_before": "row one other", "chances_of": "row height", "places_of": "row height",
        "expected_place": "row height",
    },
    "films": {"film_gap": "film", "film_bar": "film", "film_steps": "film"},
    "reports": {
        "comparisons": "many reports", "end_of": "many reports", "fit": "many reports thing",
        "heights_for": "many reports", "cycle": "many reports", "shows_cycle": "many reports thing",
        "surely_shorter": "many reports one other",
    },
    "texts": {"row_text": "row", "pairs_text": "pairs", "row_in": "text", "pairs_in": "text"},
    "sheet": {"answers": "text"},
}
METHODS = {
    "exchange": "pair", "run": "pairs", "come": "height place", "leave": "height", "turn": "",
    "undo": "", "row": "", "codes": "", "runs": "", "count": "", "exchanges": "", "operations": "",
    "as_of": "many", "twin": "", "log": "",
}


class Interface(unittest.TestCase):
    def assert_parameters(self, function, names):
        parameters = inspect.signature(function).parameters.values()
        self.assertEqual([one.name for one in parameters], names)
        for one in parameters:
            self.assertEqual(one.kind, one.POSITIONAL_OR_KEYWORD)

    def test_functions(self):
        for file, functions in FUNCTIONS.items():
            module = importlib.import_module(f"overlooks.{file}")
            for name, names in functions.items():
                function = getattr(module, name)
                self.assertEqual(function.__module__, module.__name__)
                self.assert_parameters(function, names.split())
                for one in inspect.signature(function).parameters.values():
                    self.assertIs(one.default, one.empty)

    def test_methods_are_defined_in_the_class_itself(self):
        for name, names in METHODS.items():
            self.assertIn(name, vars(Line))
            self.assert_parameters(vars(Line)[name], ["self", *names.split()])
            for one in inspect.signature(vars(Line)[name]).parameters.values():
                self.assertIs(one.default, one.empty)
        for name in ("__init__", "__eq__", "__len__", "__repr__"):
            self.assertIn(name, vars(Line))

    def test_only_the_row_of_a_line_may_be_left_out(self):
        self.assert_parameters(Line, ["row"])
        self.assertEqual(inspect.signature(Line).parameters["row"].default, ())

    def test_limits(self):
        most = importlib.import_module("overlooks.most")
        self.assertEqual((most.MOST, most.MOST_SEARCHED), (300, 2000))


if __name__ == "__main__":
    unittest.main()
