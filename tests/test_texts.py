"""Promise 2.1: texts."""

import unittest

from fullorring.reading import read_dealing, read_table
from fullorring.tables import Table, beside, full, names, ring
from fullorring.texts import dealing_text, table_text
from plain import PlainTest, W, great_table, odd_numbers, small_tables, some_tables


def no_strings():
    return [thing for thing in odd_numbers() if not isinstance(thing, str)]


class TableTextTest(PlainTest):

    def test_example(self):
        self.assertEqual(table_text(W), "1 2\n0 1 2\n0 1 2\n")

    def test_texts(self):
        self.assertEqual(table_text(names(1)), "-\n")
        self.assertEqual(table_text(full(1)), "0\n")
        self.assertEqual(table_text(Table(((1,), ()))), "1\n-\n")
        self.assertEqual(table_text(ring(12)).split("\n")[9:], ["9 10", "10 11", "0 11", ""])
        self.assertEqual(table_text(great_table()).split("\n")[0], "0 1 2 3 4 5 6 7 8 9 10 11 39")
        self.assertEqual(table_text(great_table()).count("\n"), 40)

    def test_read_again(self):
        for table in small_tables() + some_tables(12, 6):
            self.assertEqual(read_table(table_text(table)), table)


class ReadTableTest(PlainTest):

    def test_right(self):
        self.assertEqual(read_table("1 2\n0 1 2\n0 1 2\n"), W)
        self.assertEqual(read_table("-\n"), names(1))
        self.assertEqual(read_table("-\n" * 12), Table(((),) * 12))
        self.assertIs(read_table("-\n").__class__, Table)

    def test_no_string(self):
        for thing in no_strings() + [b"0\n", ["0\n"]]:
            self.assert_raises("BadText", {"line": 0}, read_table, thing)

    def test_first_bad_line(self):
        wrong = ["", " ", "0 ", " 0", "0  1", "01", "00", "0 01", "-0", "+0", "-1", "- -", "- 0", "0 -", "--", "10000",
                 "0 12345", "a", "0,1", "0\t1", "\t0", "0\t", "1.0", "0x1", "1_0", "1e1", "None", "(0,)", "0 a", "~"]
        for line in wrong:
            self.assert_raises("BadText", {"line": 1}, read_table, line + "\n")
            self.assert_raises("BadText", {"line": 2}, read_table, "0\n" + line + "\n1\n")
            self.assert_raises("BadText", {"line": 3}, read_table, "0\n-\n" + line + "\n")
            self.assert_raises("BadText", {"line": 2}, read_table, "9 9\n" + line + "\n" + line + "\nx")
            self.assert_raises("BadText", {"line": 14}, read_table, "0\n" * 13 + line + "\n")

    def test_figures_of_other_scripts_are_none(self):
        for sign in ("\u00b2", "\u0663", "\u2460"):
            self.assert_raises("BadText", {"line": 1}, read_table, sign + "\n")

    def test_no_line_or_something_behind(self):
        self.assert_raises("BadText", {"line": 1}, read_table, "")
        for behind in ("0", "-", " ", "x", "0 1", "\t"):
            self.assert_raises("BadText", {"line": 1}, read_table, behind)
            self.assert_raises("BadText", {"line": 2}, read_table, "0\n" + behind)
            self.assert_raises("BadText", {"line": 3}, read_table, "9 9\n-\n" + behind)
            self.assert_raises("BadText", {"line": 15}, read_table, "0\n" * 14 + behind)

    def test_then_bad_table(self):
        self.assert_raises("BadTable", {"part": "rows", "at": -1}, read_table, "0\n" * 13)
        self.assert_raises("BadTable", {"part": "rows", "at": -1}, read_table, table_text(beside(full(12), full(1))))
        for line in ("1 0", "0 0", "3", "0 3", "9999", "0 1 2 9999", "10"):
            self.assert_raises("BadTable", {"part": "row", "at": 0}, read_table, line + "\n-\n9\n")
            self.assert_raises("BadTable", {"part": "row", "at": 2}, read_table, "0\n-\n" + line + "\n")

    def test_numbers_of_four_and_five_figures(self):
        self.assert_raises("BadTable", {"part": "row", "at": 0}, read_table, "1000\n")
        self.assert_raises("BadText", {"line": 1}, read_table, "10000\n")


class DealingTextTest(PlainTest):

    def test_texts(self):
        self.assertEqual(dealing_text((1, 0, 3, 2)), "1 0 3 2")
        self.assertEqual(dealing_text((0,)), "0")
        self.assertEqual(dealing_text((None,)), "-")
        self.assertEqual(dealing_text((None, 0, None, 12)), "- 0 - 12")
        self.assertEqual(dealing_text(tuple(range(40))), " ".join(str(one) for one in range(40)))

    def test_read_again(self):
        for found in [(0,), (None,), (1, None), (None, None, 3), (9999, 0), (5, 5), tuple(range(40))]:
            self.assertEqual(read_dealing(dealing_text(found)), found)


class ReadDealingTest(PlainTest):

    def test_right(self):
        self.assertEqual(read_dealing("1 0 3 2"), (1, 0, 3, 2))
        self.assertEqual(read_dealing("-"), (None,))
        self.assertEqual(read_dealing("- 9999 - 0"), (None, 9999, None, 0))
        self.assertIs(read_dealing("0").__class__, tuple)

    def test_no_string(self):
        for thing in no_strings() + [b"0", ["0"], (0,)]:
            self.assert_raises("BadText", {"line": 0}, read_dealing, thing)

    def test_no_such_text(self):
        wrong = ["", " ", "0 ", " 0", "0  1", "01", "00", "0 01", "-0", "+0", "-1", "--", "10000", "0 12345", "a", "0,1",
                 "0\t1", "0\n", "0\n1", "\n", "0 1\n", "1.0", "None", "0 a", "- ", " -", "-  -", "~"]
        for text in wrong:
            self.assert_raises("BadText", {"line": 1}, read_dealing, text)


if __name__ == "__main__":
    unittest.main()
