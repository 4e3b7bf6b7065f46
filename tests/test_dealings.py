"""Promise 3.1: dealings and short lots."""

import unittest

from fullorring.dealings import dealing, is_dealing, is_short_lot, short_lot
from fullorring.tables import Table, beside, full, names, ring, with_tie, without_tie
from plain import PlainTest, W, dealings, great_table, odd_tuples, shuffled, small_tables, some_tables, subsets


def is_short(table, people):
    return len({thing for person in people for thing in table.rows[person]}) < len(people)


class DealingTest(PlainTest):

    def test_is_the_least_one(self):
        for table in small_tables():
            self.assertEqual(dealing(table), (dealings(table.rows) or [None])[0], table.rows)

    def test_examples(self):
        self.assertEqual(dealing(names(4)), (1, 0, 3, 2))
        self.assertEqual(dealing(W), (1, 0, 2))
        self.assertEqual(dealing(full(1)), (0,))
        self.assertIs(dealing(names(1)), None)
        self.assertEqual(dealing(ring(12)), tuple(range(12)))
        self.assertEqual(dealing(Table(((0, 1), (0,), (1, 2)))), (1, 0, 2))

    def test_great_tables(self):
        least = tuple(range(12)) + tuple(12 + (at ^ 1) for at in range(12)) + tuple(range(24, 40))
        self.assertEqual(dealing(great_table()), least)
        found = dealing(shuffled(great_table()))
        self.assertTrue(is_dealing(shuffled(great_table()), found))
        self.assertIs(dealing(beside(great_table_without(39), names(1))), None)


def great_table_without(size):
    """A table of 39 people with a dealing."""
    return beside(beside(full(12), full(12)), beside(full(12), full(size - 36)))


class IsDealingTest(PlainTest):

    def test_just_the_listed_ones(self):
        for table in small_tables()[:530] + some_tables(4, 16):
            listed = dealings(table.rows)
            for lot in every_tuple(table.size):
                self.assert_flag(lot in listed, is_dealing(table, lot), table.rows, lot)

    def test_wrong_things(self):
        right = (1, 0, 2)
        self.assert_flag(True, is_dealing(W, right))
        wrong = [(1, 0), (1, 0, 2, 2), (1, 0, 2, None), (0, 1, 2), (1, 1, 2), (1, 0, 3), (1, 0, -1), (1, False, 2),
                 (True, 0, 2), (1, 0, None), (None, None, None), [1, 0, 2], {0: 1, 1: 0, 2: 2}, "102", ()]
        for thing in wrong + odd_tuples(right):
            self.assert_flag(False, is_dealing(W, thing), thing)

    def test_great_tables(self):
        great = great_table()
        self.assert_flag(True, is_dealing(great, dealing(great)))
        self.assert_flag(False, is_dealing(great, tuple(range(40))))
        self.assert_flag(False, is_dealing(great, dealing(great)[:39]))


def every_tuple(size):
    found = [()]
    for _ in range(size):
        found = [lot + (one,) for lot in found for one in [None, *range(size)]]
    return found


class ShortLotTest(PlainTest):

    def test_just_one_of_both_is_none(self):
        for table in small_tables() + some_tables(9, 40) + some_tables(12, 40):
            lot = short_lot(table)
            self.assertIs(lot is None, dealing(table) is not None)
            if lot is not None:
                self.assertIs(lot.__class__, tuple)
                self.assertEqual(lot, tuple(sorted(set(lot))))
                self.assertTrue(is_short(table, lot), (table.rows, lot))
                self.assert_flag(True, is_short_lot(table, lot))
            self.assertEqual(short_lot(table), lot)

    def test_somebody_who_may_get_nothing(self):
        self.assertEqual(short_lot(names(1)), (0,))
        self.assertEqual(short_lot(Table(((0, 1), ()))), (1,))

    def test_great_tables(self):
        self.assertIs(short_lot(great_table()), None)
        stuck = great_table()
        for thing in range(24, 36):
            stuck = without_tie(stuck, 24, thing)
        self.assertEqual(short_lot(stuck), (24,))
        stuck = beside(Table(((), (0, 1))), beside(full(12), beside(full(12), full(12))))
        stuck = with_tie(stuck, 1, 37)
        self.assertTrue(is_short_lot(stuck, short_lot(stuck)))

    def test_is_short_lot(self):
        for table in small_tables()[:530] + some_tables(4, 24) + some_tables(5, 12):
            for people in subsets(range(table.size)):
                self.assert_flag(is_short(table, people), is_short_lot(table, people), table.rows, people)

    def test_wrong_things(self):
        table = Table(((), (0, 1), ()))
        self.assert_flag(True, is_short_lot(table, (0, 2)))
        wrong = [(), (1,), (2, 0), (0, 0), (0, 2, 2), (0, 3), (-1, 0), (False,), (0, True), [0, 2], [0], "0", b"\x00",
                 {0: 1}, None, 0, range(1), (0, None), (3,), (40,)]
        for thing in wrong + odd_tuples((0, 2)):
            self.assert_flag(False, is_short_lot(table, thing), thing)


if __name__ == "__main__":
    unittest.main()
