"""Promise 3.2: the number of dealings."""

import itertools
import math
import unittest

from fullorring.dealings import dealing, is_dealing
from fullorring.numbers import all_dealings, dealing_at, dealing_number, many_dealings, many_with
from fullorring.tables import Table, beside, full, names, ring, ties, turned, with_tie
from plain import (
    TABLE_5000, TABLE_5001, PlainTest, W, dealings, great_table, nested, odd_numbers, odd_tuples, shuffled,
    small_tables, some_tables,
)

DERANGED_12 = 176214841


class ManyTest(PlainTest):

    def test_many_dealings(self):
        for table in small_tables():
            self.assertEqual(many_dealings(table), len(dealings(table.rows)), table.rows)

    def test_examples(self):
        self.assertEqual(many_dealings(names(4)), 9)
        self.assertEqual(many_dealings(names(12)), DERANGED_12)
        self.assertEqual(many_dealings(full(12)), math.factorial(12))
        self.assertEqual([many_dealings(ring(size)) for size in (1, 2, 3, 12)], [1, 2, 2, 2])
        self.assertEqual([many_dealings(names(size)) for size in (1, 2, 3)], [0, 1, 2])
        self.assertEqual(many_dealings(TABLE_5000), 5000)
        self.assertEqual(many_dealings(TABLE_5001), 5001)
        for table in some_tables(8, 8):
            self.assertEqual(many_dealings(table), len(dealings(table.rows)))
            self.assertEqual(many_dealings(turned(table)), many_dealings(table))

    def test_great_tables(self):
        many = math.factorial(12) * DERANGED_12 * 2 * math.factorial(4)
        self.assertEqual(many_dealings(great_table()), many)
        self.assertEqual(many_dealings(shuffled(great_table())), many)
        self.assertEqual(many_dealings(beside(great_table_of_39(), names(1))), 0)
        tied = with_tie(with_tie(beside(names(7), names(8)), 0, 7), 7, 0)
        more = len([one for one in dealings(full_but(names(7).rows, 0, 0)) if one[0] == 0])
        more *= len([one for one in dealings(full_but(names(8).rows, 0, 0)) if one[0] == 0])
        self.assertEqual(many_dealings(tied), many_dealings(names(7)) * many_dealings(names(8)) + more)

    def test_many_with(self):
        for table in small_tables()[18:530:7] + some_tables(4, 20):
            listed = dealings(table.rows)
            pairs = list(itertools.product(range(table.size), repeat=2))
            for many in (0, 1, 2):
                for lot in itertools.product(pairs, repeat=many):
                    found = len([one for one in listed if all(one[p] == x for p, x in lot)])
                    self.assertEqual(many_with(table, lot), found)
                    self.assertEqual(many_with(table, list(lot)), found)

    def test_lots(self):
        self.assertEqual(many_with(names(4), ()), 9)
        self.assertEqual(many_with(names(4), []), 9)
        self.assertEqual(many_with(names(4), [(0, 1)]), 3)
        self.assertEqual(many_with(names(4), [(0, 1), (0, 1), (0, 1)]), 3)
        self.assertEqual(many_with(names(4), ((0, 1), (0, 2))), 0)
        self.assertEqual(many_with(names(4), ((0, 1), (2, 1))), 0)
        self.assertEqual(many_with(names(4), [(0, 0)]), 0)
        self.assertEqual(many_with(names(4), [(3, 2), (0, 1), (2, 3), (1, 0)]), 1)
        self.assertEqual(many_with(names(1), []), 0)
        self.assertEqual(many_with(great_table(), [(39, 38), (0, 11)] * 30), math.factorial(11) * DERANGED_12 * 2 * 6)
        self.assertEqual(many_with(great_table(), [(0, 39)]), 0)

    def test_no_lot(self):
        wrong = [[0], [(0,)], [(0, 1, 2)], [[0, 1]], ([0, 1],), [(0, 1), [1, 2]], [(0, 4)], [(4, 0)], [(-1, 0)],
                 [(0, -1)], [(0, True)], [(False, 1)], [(0, None)], [("0", "1")], [{0: 1}], [()], (0, 1), [0, 1],
                 {(0, 1): 1}, {0: 1}, "01", ["01"], b"01", [b"01"], range(2), [range(2)], [(0, 10 ** 59)], [None],
                 [(0, (1,))], [full(2)], [(0, 1), full(2)], [nested(lambda thing: [thing], 39)]]
        odd = [thing for thing in odd_numbers() if thing.__class__ not in (list, tuple) or len(thing) > 0]
        for thing in wrong + odd:
            self.assert_raises("NoLot", {}, many_with, names(4), thing)

    def test_lots_stay(self):
        lot = [(0, 1), (0, 1), (2, 3)]
        many_with(names(4), lot)
        self.assertEqual(lot, [(0, 1), (0, 1), (2, 3)])


def great_table_of_39():
    return beside(beside(full(12), full(12)), beside(full(12), full(3)))


def full_but(rows, person, thing):
    """The rows with a tie more."""
    return [tuple(sorted({*row, thing})) if one == person else row for one, row in enumerate(rows)]


class NumbersTest(PlainTest):

    def test_dealing_at_and_number(self):
        for table in small_tables()[:530:2] + some_tables(4, 60) + some_tables(5, 20) + [ring(6), names(5)]:
            for number, one in enumerate(dealings(table.rows)):
                self.assertEqual(dealing_at(table, number), one)
                self.assertEqual(dealing_number(table, one), number)

    def test_examples(self):
        self.assertEqual(dealing_at(names(4), 0), (1, 0, 3, 2))
        self.assertEqual(dealing_at(names(4), 8), (3, 2, 1, 0))
        self.assertEqual(dealing_at(full(12), math.factorial(12) - 1), tuple(range(11, -1, -1)))
        self.assertEqual(dealing_number(full(12), tuple(range(11, -1, -1))), math.factorial(12) - 1)
        self.assertEqual(dealing_number(full(1), (0,)), 0)

    def test_great_tables(self):
        for table in (great_table(), shuffled(great_table())):
            many = many_dealings(table)
            self.assertEqual(dealing_at(table, 0), dealing(table))
            for number in (1, many // 3, many - 1):
                found = dealing_at(table, number)
                self.assertTrue(is_dealing(table, found))
                self.assertEqual(dealing_number(table, found), number)
            self.assert_raises("NoNumber", {}, dealing_at, table, many)

    def test_no_number(self):
        for thing in odd_numbers() + [9, 10]:
            self.assert_raises("NoNumber", {}, dealing_at, names(4), thing)
        for thing in odd_numbers() + [0, 1]:
            self.assert_raises("NoNumber", {}, dealing_at, names(1), thing)

    def test_no_dealing(self):
        wrong = [(1, 0), (1, 0, 2, 2), (0, 1, 2), (1, 1, 2), (1, 0, 3), (1, 0, -1), (1, False, 2), (1, 0, None),
                 (None, None, None), [1, 0, 2], ()]
        for thing in wrong + odd_tuples((1, 0, 2)):
            self.assert_raises("NoDealing", {}, dealing_number, W, thing)
        self.assert_raises("NoDealing", {}, dealing_number, names(1), (0,))


class AllDealingsTest(PlainTest):

    def test_all_ascending(self):
        for table in small_tables() + some_tables(7, 12):
            self.assertEqual(all_dealings(table), dealings(table.rows), table.rows)

    def test_examples(self):
        self.assertEqual(all_dealings(names(1)), [])
        self.assertEqual(all_dealings(full(1)), [(0,)])
        self.assertEqual(all_dealings(ring(3)), [(0, 1, 2), (1, 2, 0)])
        self.assertEqual(all_dealings(W), [(1, 0, 2), (1, 2, 0), (2, 0, 1), (2, 1, 0)])

    def test_up_to_5000(self):
        self.assertEqual(all_dealings(TABLE_5000), dealings(TABLE_5000.rows))
        self.assert_raises("TooMany", {"most": 5000}, all_dealings, TABLE_5001)
        self.assert_raises("TooMany", {"most": 5000}, all_dealings, full(7))
        self.assert_raises("TooMany", {"most": 5000}, all_dealings, great_table())

    def test_great_tables(self):
        rings = ring(3)
        for _ in range(11):
            rings = beside(rings, ring(3))
        for table in (shuffled(rings), shuffled(beside(beside(names(6), ring(12)), beside(ring(12), ring(2))))):
            found = all_dealings(table)
            self.assertEqual(len(found), many_dealings(table))
            self.assertEqual(found, sorted(set(found)))
            self.assertTrue(all(is_dealing(table, one) for one in found))

    def test_lists_are_new(self):
        for table in (W, names(1), full(1), names(4)):
            self.assert_new(all_dealings, table)
        self.assertEqual(len(ties(W)), 8)


if __name__ == "__main__":
    unittest.main()
