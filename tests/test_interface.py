"""The interface: what is listed stands in its file, with its arguments."""

import importlib
import inspect
import unittest

FUNCTIONS = {
    "tensloft.shapes": {
        "shape": ["kind", "figures", "sign", "point"],
        "least_of": ["shape"],
        "most_of": ["shape"],
        "folded": ["shape", "number"],
    },
    "tensloft.keeping": {
        "kept": ["shape", "number"],
        "bytes_of": ["shape"],
        "number_of": ["shape", "row"],
        "caught": ["shape", "row"],
    },
    "tensloft.texts": {
        "written": ["shape", "number"],
        "told": ["shape", "text"],
        "hexed": ["row"],
        "unhexed": ["text"],
    },
    "tensloft.machine": {
        "run": ["program", "cells", "mark"],
    },
    "tensloft.lines": {
        "rows_written": ["rows"],
        "rows_told": ["text"],
    },
    "tensloft.sums": {
        "sum_rows": ["shape"],
        "sum_parts": ["figures"],
    },
    "tensloft.differences": {
        "difference_rows": ["shape"],
        "compare_rows": ["shape"],
    },
    "tensloft.rekept": {
        "rekept_rows": ["one", "other"],
    },
    "tensloft.points": {
        "rounded": ["number", "by", "rule"],
        "moved_rows": ["shape", "by", "rule"],
    },
    "tensloft.products": {
        "product_rows": ["shape", "figures"],
    },
    "tensloft.quotients": {
        "parted": ["one", "other"],
        "quotient_rows": ["shape", "figures"],
    },
    "tensloft.twos": {
        "by_twos": ["shape", "number", "many"],
        "from_twos": ["shape", "row"],
        "twos_rows": ["shape", "many"],
        "tens_rows": ["shape", "many"],
    },
    "tensloft.least": {
        "listed": ["tables", "menu", "starts", "most"],
        "least": ["tables", "menu", "cases", "most"],
        "least_holds": ["tables", "menu", "cases", "most", "told"],
    },
    "tensloft.checks": {
        "does": ["deed", "kind", "program"],
        "check_rows": ["shape"],
    },
    "tensloft.papers": {
        "sixes": ["figures", "one", "other"],
        "tries": ["one", "other"],
        "rounding": ["number", "by", "rule"],
    },
    "tensloft.looks": {
        "sixes_hold": ["figures", "one", "other", "paper"],
        "tries_hold": ["one", "other", "paper"],
        "rounding_holds": ["number", "by", "rule", "paper"],
    },
}


class InterfaceTest(unittest.TestCase):
    def test_functions_stand_in_their_files(self):
        for file, functions in FUNCTIONS.items():
            module = importlib.import_module(file)
            for name, arguments in functions.items():
                function = getattr(module, name)
                self.assertTrue(inspect.isfunction(function), name)
                self.assertEqual(function.__module__, file, name)
                self.assertEqual(list(inspect.signature(function).parameters), arguments)

    def test_the_desk_stands_in_its_file(self):
        module = importlib.import_module("tensloft.desk")
        self.assertTrue(inspect.isclass(module.Desk))
        self.assertEqual(module.Desk.__module__, "tensloft.desk")
        self.assertEqual(list(inspect.signature(module.Desk).parameters), [])
        self.assertTrue(inspect.isfunction(vars(module.Desk)["tell"]))
        self.assertEqual(list(inspect.signature(module.Desk.tell).parameters), ["self", "line"])


if __name__ == "__main__":
    unittest.main()
