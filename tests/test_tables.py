"""Promises 1.1, 1.2, 1.3: tables."""

import unittest
from unittest import mock

from fullorring.tables import (
    Table, beside, full, kept, names, renumbered, ring, ties, turned, with_tie, without_tie,
)
from fullorring.texts import table_text
from plain import (
    PlainTest, W, all_tables, great_table, nested, odd_numbers, odd_tuples, shuffled, small_tables, some_tables,
)


class TableTest(PlainTest):

    def test_keeps_rows_and_size(self):
        for rows in [((),), ((0,),), ((), ()), ((0, 1), (1,)), ((1, 2), (0, 1, 2), (0, 1, 2)), ((),) * 12]:
            table = Table(rows)
            self.assertEqual(table.rows, rows)
            self.assertIs(table.rows.__class__, tuple)
            self.assertEqual(table.size, len(rows))
            self.assertEqual(vars(table), {"rows": rows, "size": len(rows)})

    def test_one_and_twelve_rows_but_no_others(self):
        self.assertEqual(Table((tuple(range(12)),) * 12).size, 12)
        self.assertEqual(Table(((0,),)).size, 1)
        self.assert_raises("BadTable", {"part": "rows", "at": -1}, Table, ())
        self.assert_raises("BadTable", {"part": "rows", "at": -1}, Table, ((),) * 13)
        self.assert_raises("BadTable", {"part": "rows", "at": -1}, Table, ((0,),) * 40)

    def test_bad_rows(self):
        wrong = [[], [()], [[0]], {}, {(): 1}, "", "ab", b"", b"a", None, True, 0, 1, range(0), range(1), len, full(1)]
        for rows in wrong + [nested(lambda thing: [thing]), iter([()]), [(0,)], {0: (0,)}]:
            self.assert_raises("BadTable", {"part": "rows", "at": -1}, Table, rows)

    def test_bad_row(self):
        wrong = [(1, 0), (0, 0), (0, 1, 1), (3,), (-1,), (0, 3), (-1, 0), (True,), (False, 1), (0, True), (None,),
                 ("0",), (b"",), ((0,),), ([0],), (10 ** 59,), (0, 10 ** 59), (full(1),), (len,)]
        for row in wrong + [thing for thing in odd_tuples((0, 1)) if thing != ()]:
            for at in range(3):
                rows = ((0, 1, 2),) * at + (row,) + ((),) * (2 - at)
                self.assert_raises("BadTable", {"part": "row", "at": at}, Table, rows)

    def test_first_bad_row(self):
        self.assert_raises("BadTable", {"part": "row", "at": 1}, Table, ((0,), [1], None))
        self.assert_raises("BadTable", {"part": "row", "at": 0}, Table, ((2,), [1]))
        self.assert_raises("BadTable", {"part": "row", "at": 0}, Table, nested(lambda thing: (thing,)))
        self.assert_raises("BadTable", {"part": "rows", "at": -1}, Table, (None,) * 13)

    def test_equal_just_if_rows_are(self):
        tables = all_tables(1) + all_tables(2) + some_tables(3, 20)
        for one in tables:
            self.assertTrue(one == Table(one.rows))
            self.assertFalse(one != Table(one.rows))
            for other in tables:
                self.assertIs(one == other, one.rows == other.rows)
                self.assertIs(one != other, one.rows != other.rows)

    def test_equal_to_nothing_else(self):
        class Alike:
            rows = W.rows
            size = W.size
        for thing in odd_numbers() + [W.rows, list(W.rows), Alike(), table_text(W), vars(W)]:
            self.assertIs(W == thing, False)
            self.assertIs(W != thing, True)
        self.assertIs(W.__eq__(mock.ANY), False)

    def test_great_tables_are_equal_by_rows(self):
        self.assertEqual(great_table(), great_table())
        self.assertNotEqual(great_table(), with_tie(great_table(), 39, 0))


class TiesTest(PlainTest):

    def test_ties(self):
        for table in small_tables():
            found = [(p, x) for p in range(table.size) for x in range(table.size) if x in table.rows[p]]
            self.assertEqual(ties(table), found)
        self.assertEqual(ties(W), [(0, 1), (0, 2), (1, 0), (1, 1), (1, 2), (2, 0), (2, 1), (2, 2)])
        self.assertEqual(ties(full(1)), [(0, 0)])
        self.assertEqual(ties(names(1)), [])
        self.assertEqual(len(ties(great_table())), 144 + 132 + 24 + 16 + 1)
        self.assert_new(ties, W)

    def test_with_and_without_tie(self):
        for table in all_tables(1) + all_tables(2) + some_tables(4, 12) + some_tables(12, 3):
            rows = table.rows
            for person in range(table.size):
                for thing in range(table.size):
                    more = ties(with_tie(table, person, thing))
                    less = ties(without_tie(table, person, thing))
                    self.assertEqual(more, sorted(set(ties(table)) | {(person, thing)}))
                    self.assertEqual(less, sorted(set(ties(table)) - {(person, thing)}))
            self.assertEqual(table.rows, rows)

    def test_result_is_a_table(self):
        for table in [with_tie(W, 0, 0), without_tie(W, 2, 2), with_tie(W, 1, 1), without_tie(W, 0, 0)]:
            self.assertIs(table.__class__, Table)
            self.assertEqual(Table(table.rows), table)
            self.assertEqual(table.size, 3)
        self.assertEqual(with_tie(W, 0, 0), full(3))

    def test_no_person_then_no_thing(self):
        for function in (with_tie, without_tie):
            for thing in odd_numbers() + [3]:
                self.assert_raises("NoPerson", {}, function, W, thing, 0)
                self.assert_raises("NoPerson", {}, function, W, thing, thing)
                self.assert_raises("NoThing", {}, function, W, 0, thing)
                self.assert_raises("NoThing", {}, function, W, 2, thing)

    def test_great_tables(self):
        great = great_table()
        self.assertEqual(len(ties(with_tie(great, 39, 0))), len(ties(great)) + 1)
        self.assertEqual(len(ties(without_tie(great, 0, 39))), len(ties(great)) - 1)
        self.assertEqual(without_tie(with_tie(great, 39, 0), 39, 0), great)
        self.assert_raises("NoPerson", {}, with_tie, great, 40, 0)
        self.assert_raises("NoThing", {}, without_tie, great, 0, 40)


class MovedTest(PlainTest):

    def test_turned(self):
        for table in small_tables() + [great_table()]:
            other = turned(table)
            self.assertEqual(ties(other), sorted((x, p) for p, x in ties(table)))
            self.assertEqual(other.size, table.size)
            self.assertEqual(turned(other), table)
        self.assertEqual(turned(Table(((1,), ()))), Table(((), (0,))))

    def test_renumbered(self):
        self.assertEqual(renumbered(Table(((0, 2), (), (1,))), (1, 2, 0), (2, 0, 1)), Table(((0,), (1, 2), ())))
        for table in some_tables(4, 30):
            people, things = (2, 0, 3, 1), (3, 1, 0, 2)
            other = renumbered(table, people, things)
            self.assertEqual(ties(other), sorted((people[p], things[x]) for p, x in ties(table)))
            self.assertEqual(renumbered(table, (0, 1, 2, 3), (0, 1, 2, 3)), table)
            self.assertEqual(Table(other.rows), other)
        self.assertEqual(len(ties(shuffled(great_table()))), len(ties(great_table())))

    def test_renumbered_errors(self):
        right = (0, 1, 2)
        wrong = [(0, 1), (0, 1, 2, 3), (0, 1, 1), (0, 1, 3), (1, 2, 3), (-1, 0, 1), (0, 1, True), (), [0, 1, 2],
                 [2, 1, 0], (0, 1, 2, 0), (0, 0, 1, 2), (2, 1, 0, 1, 2), (0, 1, None), (0, 1, "2"), {0: 0, 1: 1, 2: 2}]
        for thing in wrong + odd_tuples(right):
            self.assert_raises("NoNumbers", {}, renumbered, W, thing, right)
            self.assert_raises("NoNumbers", {}, renumbered, W, right, thing)
            self.assert_raises("NoNumbers", {}, renumbered, W, thing, thing)

    def test_beside(self):
        self.assertEqual(beside(Table(((0,),)), Table(((), (0, 1)))), Table(((0,), (), (1, 2))))
        for one in all_tables(1) + some_tables(3, 8):
            for other in all_tables(2) + some_tables(4, 4):
                both = beside(one, other)
                moved = [(p + one.size, x + one.size) for p, x in ties(other)]
                self.assertEqual(ties(both), sorted(ties(one) + moved))
                self.assertEqual(both.size, one.size + other.size)
                self.assertIs(both.__class__, Table)

    def test_beside_of_up_to_40(self):
        half = beside(full(12), ring(8))
        self.assertEqual(beside(half, half).size, 40)
        self.assertEqual(beside(half, half).rows[20], tuple(range(20, 32)))
        self.assertEqual(beside(beside(half, beside(full(12), full(7))), names(1)).size, 40)
        for one, other in [(half, beside(half, full(1))), (beside(half, full(1)), half), (beside(half, half), full(1)),
                           (beside(half, half), beside(half, half))]:
            self.assert_raises("TooMany", {"most": 40}, beside, one, other)

    def test_kept(self):
        self.assertEqual(kept(W, (0, 2), (0, 2)), Table(((1,), (0, 1))))
        for table in some_tables(4, 20) + [beside(names(6), names(8))]:
            for people, things in [((0,), (3,)), ((1, 2), (0, 3)), ((0, 1, 3), (1, 2, 3)), ((0, 1, 2, 3), (0, 1, 2, 3))]:
                other = kept(table, people, things)
                found = [(people.index(p), things.index(x)) for p, x in ties(table) if p in people and x in things]
                self.assertEqual(ties(other), sorted(found))
                self.assertEqual(other.size, len(people))
                self.assertEqual(Table(other.rows), other)
        every = tuple(range(40))
        self.assertEqual(kept(great_table(), every, every), great_table())
        self.assertEqual(kept(great_table(), every[12:24], every[12:24]), names(12))
        self.assertEqual(kept(great_table(), every[:13], every[:13]).size, 13)

    def test_kept_errors(self):
        right = (0, 2)
        wrong = [(), (2, 0), (0, 0), (0, 3), (-1, 0), (0, True), (False, 1), [0, 2], (0, None), (0, "2")]
        for thing in wrong + odd_tuples(right):
            self.assert_raises("NoNumbers", {}, kept, W, thing, right)
            self.assert_raises("NoNumbers", {}, kept, W, right, thing)
            self.assert_raises("NoNumbers", {}, kept, W, thing, thing)
        for one, other in [((0,), (0, 1)), ((0, 1), (0,)), ((0, 1, 2), (0, 1)), ((0,), (0, 1, 2))]:
            self.assert_raises("NoNumbers", {}, kept, W, one, other)


class NamedTablesTest(PlainTest):

    def test_names(self):
        self.assertEqual(names(4), Table(((1, 2, 3), (0, 2, 3), (0, 1, 3), (0, 1, 2))))
        self.assertEqual(names(1), Table(((),)))
        for size in range(1, 13):
            self.assertEqual(ties(names(size)), [(p, x) for p in range(size) for x in range(size) if p != x])

    def test_full(self):
        for size in range(1, 13):
            self.assertEqual(full(size).rows, (tuple(range(size)),) * size)

    def test_ring(self):
        self.assertEqual(ring(1), Table(((0,),)))
        self.assertEqual(ring(2), full(2))
        self.assertEqual(ring(3), Table(((0, 1), (1, 2), (0, 2))))
        for size in range(1, 13):
            found = {(p, p) for p in range(size)} | {(p, (p + 1) % size) for p in range(size)}
            self.assertEqual(ties(ring(size)), sorted(found))

    def test_sizes(self):
        for function in (names, full, ring):
            for size in range(1, 13):
                self.assertEqual(function(size).size, size)
                self.assertIs(function(size).__class__, Table)
                self.assertEqual(Table(function(size).rows), function(size))
            for size in odd_numbers() + [0, 13, 40]:
                self.assert_raises("NoNumber", {}, function, size)


if __name__ == "__main__":
    unittest.main()
