"""The interface: each name in its file, with its arguments; and 0.4: what is said of everything."""

import importlib
import inspect
import unittest

from fullorring.tables import Table
from plain import PlainTest

INTERFACE = {
    "tables": [
        "Table(rows)", "ties(table)", "with_tie(table, person, thing)", "without_tie(table, person, thing)",
        "turned(table)", "renumbered(table, people, things)", "beside(one, other)", "kept(table, people, things)",
        "names(size)", "full(size)", "ring(size)",
    ],
    "texts": ["table_text(table)", "dealing_text(dealing)"],
    "reading": ["read_table(text)", "read_dealing(text)"],
}


class InterfaceTest(PlainTest):

    def test_names_and_arguments(self):
        for part, told in INTERFACE.items():
            module = importlib.import_module("fullorring." + part)
            for line in told:
                name = line.partition("(")[0]
                thing = getattr(module, name)
                self.assertEqual(thing.__module__, "fullorring." + part, line)
                self.assertEqual(name + str(inspect.signature(thing)), line)

    def test_table_has_its_methods_itself(self):
        self.assertIn("__eq__", vars(Table))
        self.assertIn("__init__", vars(Table))


if __name__ == "__main__":
    unittest.main()
