"""The interface: each function under its name, with its arguments and defaults."""

import importlib
import inspect
import unittest

FUNCTIONS = {
    "banks": {
        "tidy": "(rows)",
        "length": "(bank)",
        "ground_of": "(bank)",
        "between": "(bank, start=0, end=None)",
        "cut_out": "(bank, start=0, end=None)",
        "rest": "(bank, start=0, end=None)",
    },
    "halves": {"half_place": "(bank)"},
    "deals": {"deal": "(bank, heirs=2)", "cuts": "(bank, shares)", "fair": "(bank, shares)"},
    "texts": {"shown": "(bank)", "read": "(text)", "shown_shares": "(shares)"},
}


class Interface(unittest.TestCase):
    def test_names_arguments_and_defaults(self):
        for module, functions in FUNCTIONS.items():
            for name, arguments in functions.items():
                with self.subTest(module=module, name=name):
                    asked = getattr(importlib.import_module(f"bankshare.{module}"), name)
                    self.assertEqual(str(inspect.signature(asked)), arguments)


if __name__ == "__main__":
    unittest.main()
