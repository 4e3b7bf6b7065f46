"""Promises 8.1, 8.2: turn books."""

import copy
import fractions
import unittest

from bookish import (
    LEAVES, book_of, deep_book, deep_condition, histories, many_tuples, plain_next, plain_ways, some_books,
)
from fullorring.books import book_chance, book_even, book_history, book_uneven, next_comer, turn_book
from fullorring.chances import chance
from fullorring.even import is_even
from fullorring.tables import Table, beside, full, names, ring, with_tie
from plain import (
    STUCK, TABLE_5000, TABLE_5001, W, PlainTest, all_tables, great_table, listed, nested, odd_numbers, odd_tuples,
    odd_turns, pair, some_tables, turns, with_dealing,
)

N4 = names(4)
NAMED = ("named",)
IDLE = Table(((0,), (0, 1, 2), (1, 2)))
ALL_PEOPLE = ("row", tuple(("person", at) for at in range(12)))
ALL_THINGS = ("row", tuple(("thing", at) for at in range(12)))


def right_books():
    """Books at the bounds, for tables of four people."""
    people = tuple(("person", at) for at in range(4))
    things = tuple(("thing", at) for at in range(4))
    return LEAVES + [
        ("row", people), ("row", things), ("row", things[::-1] + people), ("row", (people + things) * 3),
        ("row", (("person", 3),) * 24), ("if", ("has", 3, 3), NAMED, NAMED), ("if", ("drawn", 3), NAMED, ("giver",)),
        ("if", ("after", 0), NAMED, ("most",)), ("if", ("after", 12), NAMED, ("most",)), ("else", NAMED, ("fewest",)),
        ("if", ("can", 0, 0), NAMED, ("most",)), ("if", ("not", ("not", ("can", 3, 0))), NAMED, ("most",)),
        deep_book(15), ("if", deep_condition(14), NAMED, NAMED), book_of(99), book_of(100),
    ]


def wrong_books():
    """What is no book for a table of four people."""
    people = tuple(("person", at) for at in range(4))
    found = [
        (), ("row",), ("row", people, people), ("row", list(people)), ["row", people], ("row", people + (("person", 4),)),
        ("row", (("person", 3),) * 25), ("row", (("thing", 4),)), ("row", (("person", -1),)), ("row", (("person", True),)),
        ("row", (("people", 1),)), ("row", (["person", 1],)), ("row", (("person",),)), ("row", (("person", 1, 1),)),
        ("row", ("person", 1)), ("row", "p1"), ("row", {}), ("row", None), ("row", (1, 2)), ("row", (NAMED,)),
        ("row", ((b"person", 1),)), ("row", ((("person",), 1),)), ("row", (("person", "1"),)), ("row", (None,)), ("Row", ()),
        ("named", 0), ("named", ()), ["named"], ("giver", 1), ("fewest", NAMED), ("most", 0), ("name",), ("",), ("nobody",),
        "named", b"named", (b"named",), (("named",),), {"named": 1}, None, 0, True, (0,), (None,), (True,),
        ("if",), ("if", ("after", 1), NAMED), ("if", ("after", 1), NAMED, NAMED, NAMED), ("if", NAMED, NAMED, NAMED),
        ("if", ("after", 1), ("after", 1), NAMED), ("if", ("after", 1), NAMED, ("after", 1)),
        ["if", ("after", 1), NAMED, NAMED], ("if", ["after", 1], NAMED, NAMED), ("if", ("after", 1), ["named"], NAMED),
        ("if", None, NAMED, NAMED), ("if", ("after", 1), None, NAMED), ("if", ("after", 1), NAMED, "named"),
        ("else",), ("else", NAMED), ("else", NAMED, NAMED, NAMED), ("else", NAMED, None), ("else", None, NAMED),
        ("or", ("after", 1), NAMED, NAMED), ("or", NAMED, NAMED), ["else", NAMED, NAMED], ("else", ("after", 1), NAMED),
        ("else", NAMED, ("not", NAMED)), ("else", (), NAMED),
        deep_book(16), deep_book(39), ("if", deep_condition(15), NAMED, NAMED), book_of(101), book_of(102), book_of(999),
        ("if", deep_condition(38), NAMED, NAMED), full(4), ("else", full(2), NAMED), ("else", NAMED, len),
        ("after", 1), ("has", 1, 1), ("not", ("after", 1)), ("person", 1),
    ]
    conditions = [
        ("has", 4, 0), ("has", 0, 4), ("has", 0), ("has", 0, 0, 0), ("has", True, 0), ("has", 0, "1"), ("has", (0, 1)),
        ("can", 4, 0), ("can", 0, 4), ("can", -1, 0), ("can", 0), ("can", 0, False), ("can", None, 0), ("drawn", 4),
        ("drawn",), ("drawn", 0, 0), ("drawn", -1), ("drawn", True), ("after", 13), ("after", -1), ("after", True), ("after",),
        ("after", 1, 1), ("after", "1"), ("after", 10 ** 59), ("after", None), ("not",), ("not", NAMED), ("not", None),
        ("not", ("after", 13)), ("not", ("after", 1), ("after", 1)), ("not", "after"), ("Has", 0, 0), (), ("",), (1, 2),
        (b"after", 1), ("after", (1,)), ("drawn", [1]), ("have", 1, 1), full(1), "after 1",
    ]
    # One tuple in many places, as often as 2 ** 35 in all.
    wide = NAMED
    for _ in range(35):
        wide = ("else", wide, wide)
    return found + [("if", one, NAMED, NAMED) for one in conditions] + [wide] + odd_numbers()


class NextTest(PlainTest):

    def test_next_comer(self):
        tables = with_dealing(all_tables(1) + all_tables(2) + all_tables(3)[::23] + some_tables(4, 8)) + [W, IDLE]
        for at, table in enumerate(tables):
            for book in some_books(table.size, 40)[at % 4::4] + (LEAVES if table.size > 1 else LEAVES[:5]):
                for history in histories(table.rows)[at % 3::3]:
                    if len(history) < table.size:
                        right = plain_next(table.rows, book, history)
                        self.assertEqual(next_comer(table, book, history), right, (table.rows, book, history))

    def test_words(self):
        self.assertEqual(next_comer(N4, NAMED, ()), ("person", 0))
        self.assertEqual(next_comer(N4, NAMED, ((0, 2),)), ("person", 2))
        self.assertEqual(next_comer(N4, NAMED, ((0, 2), (2, 0))), ("person", 1))
        self.assertEqual(next_comer(N4, ("giver",), ()), ("person", 0))
        self.assertEqual(next_comer(N4, ("giver",), ((1, 2),)), ("thing", 1))
        self.assertEqual(next_comer(N4, ("giver",), ((2, 1), (1, 2))), ("person", 0))
        self.assertEqual(next_comer(N4, ("else", ("giver",), ("row", (("person", 3),))), ()), ("person", 3))
        self.assertEqual(next_comer(IDLE, ("fewest",), ()), ("person", 0))
        self.assertEqual(next_comer(IDLE, ("most",), ()), ("person", 1))
        self.assertEqual(next_comer(N4, ("most",), ((0, 1),)), ("person", 1))
        self.assertEqual(next_comer(N4, ("fewest",), ((0, 1),)), ("person", 2))
        self.assertEqual(next_comer(N4, ("row", ()), ((0, 1),)), ("person", 1))
        row = ("row", (("thing", 1), ("person", 0), ("thing", 1), ("person", 3)))
        self.assertEqual(next_comer(N4, row, ((0, 1),)), ("person", 3))
        self.assertEqual(next_comer(N4, row, ((0, 2),)), ("thing", 1))
        self.assertEqual(next_comer(N4, row, ((0, 1), (3, 0))), ("person", 1))

    def test_conditions(self):
        def holds(condition, history=()):
            book = ("if", condition, ("row", (("thing", 3),)), ("row", (("thing", 0),)))
            return next_comer(N4, book, history) == ("thing", 3)
        self.assertTrue(holds(("after", 0)))
        self.assertFalse(holds(("after", 1)))
        self.assertTrue(holds(("after", 1), ((0, 1),)))
        self.assertFalse(holds(("after", 12), ((0, 1),)))
        self.assertTrue(holds(("not", ("after", 12))))
        self.assertTrue(holds(("has", 0, 1), ((0, 1),)))
        self.assertFalse(holds(("has", 0, 2), ((0, 1),)))
        self.assertFalse(holds(("has", 1, 0), ((0, 1),)))
        self.assertTrue(holds(("drawn", 1), ((0, 1),)))
        self.assertFalse(holds(("drawn", 2), ((0, 1),)))
        self.assertTrue(holds(("can", 0, 1)))
        self.assertFalse(holds(("can", 0, 0)))
        self.assertFalse(holds(("can", 0, 1), ((0, 1),)))
        self.assertFalse(holds(("can", 2, 1), ((0, 1),)))
        # 2 may get 0, which is left; but then 3 gets nothing but the own thing.
        self.assertFalse(holds(("can", 2, 0), ((0, 1), (1, 2))))

    def test_many_people(self):
        table = beside(full(12), ring(12))
        history = ((20, 21), (3, 4))
        self.assertEqual(next_comer(table, ("row", ()), history), ("person", 0))
        self.assertEqual(next_comer(table, ("fewest",), history), ("person", 12))
        self.assertEqual(next_comer(table, ("most",), history), ("person", 0))
        self.assertEqual(next_comer(table, NAMED, history), ("person", 4))
        self.assertEqual(next_comer(table, ("giver",), history), ("thing", 3))
        self.assertEqual(next_comer(table, ("row", (("thing", 23), ("person", 23))), ()), ("thing", 23))


class ChancesTest(PlainTest):

    def tables(self):
        return with_dealing(all_tables(1) + all_tables(2) + all_tables(3)[::7] + some_tables(4, 20)) + [W, N4, IDLE]

    def test_chance_history_and_even(self):
        for at, table in enumerate(self.tables()):
            for book in some_books(table.size, 40)[at % 8::8] + (LEAVES if table.size > 1 else LEAVES[:5]):
                self.check_book(table, book)

    def check_book(self, table, book):
        ways = plain_ways(table.rows, book)
        self.assertEqual(sorted(ways), list(listed(table.rows)))
        total = fractions.Fraction(0)
        for lot, (history, bottom) in ways.items():
            self.assertEqual(book_chance(table, book, lot), (1, bottom), (table.rows, book, lot))
            self.assertEqual(book_history(table, book, lot), history, (table.rows, book, lot))
            total += fractions.Fraction(1, bottom)
        self.assertEqual(total, 1)
        right = len({bottom for _, bottom in ways.values()}) == 1
        self.assert_flag(right, book_even(table, book), table.rows, book)
        found = book_uneven(table, book)
        self.assertEqual(found is None, right)
        if found is not None:
            self.assertIs(found.__class__, tuple)
            self.assertLess(ways[found[0]][1], ways[found[1]][1])
            self.assertEqual(book_uneven(table, book), found)

    def test_what_adds_up_alike_is_not_alike_likely(self):
        table = Table(((1, 3), (0, 2, 3), (0, 1, 2, 4), (1, 2, 3), (1, 4)))
        self.check_book(table, NAMED)
        self.assert_flag(False, book_even(table, NAMED))
        table = Table(((0, 1, 3, 4), (1, 3, 4), (0, 1, 2, 3), (0, 1, 2, 4), (0, 2, 3, 4)))
        self.check_book(table, ("most",))
        self.assert_flag(False, book_even(table, ("most",)))

    def test_examples(self):
        self.assert_flag(True, book_even(N4, NAMED))
        self.assertIs(book_uneven(N4, NAMED), None)
        self.assert_flag(False, book_even(N4, ("row", ())))
        self.assertEqual(book_history(N4, NAMED, (2, 3, 1, 0)), ((0, 2), (2, 1), (1, 3), (3, 0)))
        self.assertEqual(book_chance(N4, NAMED, (2, 3, 1, 0)), (1, 9))
        self.assertEqual(book_history(full(1), ("row", (("thing", 0),)), (0,)), ((0, 0),))
        self.assertEqual(book_chance(full(1), NAMED, (0,)), (1, 1))

    def test_turn_book(self):
        self.assertEqual(turn_book(W, (1, 0, 2)), ("row", (("person", 1), ("person", 0), ("person", 2))))
        for table in with_dealing(all_tables(2) + all_tables(3)[::29] + some_tables(4, 6)) + [beside(W, ring(3))]:
            for turn in turns(table.size)[::5]:
                book = turn_book(table, turn)
                self.assert_flag(is_even(table, turn, "ahead"), book_even(table, book))
                for lot in listed(table.rows):
                    self.assertEqual(book_chance(table, book, lot), chance(table, turn, "ahead", lot))
        great = beside(full(12), ring(12))
        turn = tuple(range(24))[::-1]
        lot = tuple(range(24))
        self.assertEqual(book_chance(great, turn_book(great, turn), lot), chance(great, turn, "ahead", lot))
        self.assertEqual(len(turn_book(great_table(), tuple(range(40)))[1]), 40)

    def test_as_many_dealings_as_can_be(self):
        self.assert_flag(False, book_even(TABLE_5000, NAMED))
        one, other = book_uneven(TABLE_5000, NAMED)
        more, less = book_chance(TABLE_5000, NAMED, one), book_chance(TABLE_5000, NAMED, other)
        self.assertGreater(fractions.Fraction(*more), fractions.Fraction(*less))
        for table in (TABLE_5001, full(7), great_table()):
            self.assert_raises("TooMany", {"most": 5000}, book_even, table, NAMED)
            self.assert_raises("TooMany", {"most": 5000}, book_uneven, table, NAMED)
        self.assertEqual(book_chance(full(8), NAMED, tuple(range(8))), pair(fractions.Fraction(1, 40320)))

    def test_right_books(self):
        for book in right_books():
            self.assertLessEqual(many_tuples(book), 100)
            self.assertEqual(next_comer(N4, book, ()), plain_next(N4.rows, book, ()))
            self.check_book(N4, book)
        self.assertEqual(many_tuples(book_of(100)), 100)
        self.assertEqual(many_tuples(book_of(101)), 101)
        for book in (ALL_PEOPLE, ALL_THINGS, ("row", ALL_THINGS[1] + ALL_PEOPLE[1])):
            self.assertEqual(book_chance(ring(12), book, tuple(range(12))), (1, 2))
        for book in (("row", (("person", 23),)), ("if", ("drawn", 23), NAMED, NAMED), ("if", ("after", 12), NAMED, NAMED)):
            self.assertEqual(len(book_history(beside(full(12), ring(12)), book, tuple(range(24)))), 24)

    def test_answers_stay_the_same(self):
        book = ("else", NAMED, ("if", ("not", ("can", 0, 1)), ("giver",), ("most",)))
        before = copy.deepcopy(book)
        for _ in range(2):
            self.assertEqual(next_comer(N4, book, ((0, 1),)), next_comer(N4, before, ((0, 1),)))
            self.assertEqual(book_uneven(N4, book), book_uneven(N4, before))
        self.assertEqual(book, before)


class WrongThingsTest(PlainTest):

    def test_no_book(self):
        for book in wrong_books():
            for table in (N4, with_tie(Table(((), (0,), (0,), (0,))), 0, 0)):
                for history in ((), ((0, 1),), None, ((9, 9),)):
                    self.assert_raises("NoBook", {}, next_comer, table, book, history)
                for lot in ((1, 0, 3, 2), (0, 1, 2, 3), None):
                    self.assert_raises("NoBook", {}, book_chance, table, book, lot)
                    self.assert_raises("NoBook", {}, book_history, table, book, lot)
                self.assert_raises("NoBook", {}, book_even, table, book)
                self.assert_raises("NoBook", {}, book_uneven, table, book)
        self.assert_raises("NoBook", {}, book_even, full(7), ("name",))
        self.assert_raises("NoBook", {}, book_even, full(3), ("row", (("person", 3),)))
        self.assert_raises("NoBook", {}, next_comer, N4, nested(lambda thing: ("else", thing, NAMED)), ())
        self.assert_raises("NoBook", {}, next_comer, N4, nested(lambda thing: ("not", thing)), ())

    def test_no_history(self):
        wrong = [((0, 0),), ((0, 1), (0, 1)), ((0, 1), (0, 2)), ((0, 1), (2, 1)), ((0, 4),), ((4, 0),), ((0, 1, 2),), ((0,),),
                 ([0, 1],), [(0, 1)], [], ((0, True),), ((False, 1),), (0, 1), ("01",), (None,), ((0, None),), (((0,), 1),),
                 ((0, 1), (1, 0), (2, 3), (3, 2)), ((0, 1), (1, 2), (2, 0)), {(0, 1): True}, ((0, "1"),), ((0, -1),),
                 ((0, 1),) * 4, ((0, 1),) * 9999, (full(1),), ((0, full(1)),), ((0, 1), None), ((None, None),)]
        for history in wrong + [one for one in odd_numbers() if one != ()] + odd_tuples(((0, 1), (1, 0))):
            self.assert_raises("NoHistory", {}, next_comer, N4, NAMED, history)
        for history in ((), ((2, 2),), ((0, 0),)):
            self.assert_raises("NoHistory", {}, next_comer, STUCK, NAMED, history)
        self.assert_raises("NoHistory", {}, next_comer, full(1), NAMED, ((0, 0),))
        # A tie that is idle, so that nothing sound comes of it.
        self.assert_raises("NoHistory", {}, next_comer, IDLE, NAMED, ((1, 0),))

    def test_no_dealing(self):
        for lot in odd_tuples((1, 0, 3, 2)) + [(0, 1, 2, 3), (1, 0, 3), (1, 0, 3, 3), (1, 0, 3, None), (1, 0, 3, 4)]:
            self.assert_raises("NoDealing", {}, book_chance, N4, NAMED, lot)
            self.assert_raises("NoDealing", {}, book_history, N4, NAMED, lot)
        self.assert_raises("NoDealing", {}, book_chance, STUCK, NAMED, (0, 0, 1))
        self.assert_raises("NoDealing", {}, book_history, STUCK, NAMED, (0, 1, 2))

    def test_stuck(self):
        for table in (STUCK, names(1), beside(full(8), STUCK)):
            self.assert_raises("Stuck", {}, book_even, table, NAMED)
            self.assert_raises("Stuck", {}, book_uneven, table, NAMED)

    def test_no_turn(self):
        for turn in odd_turns(3):
            self.assert_raises("NoTurn", {}, turn_book, W, turn)
            self.assert_raises("NoTurn", {}, turn_book, STUCK, turn)
        self.assertEqual(turn_book(STUCK, (0, 2, 1)), ("row", (("person", 0), ("person", 2), ("person", 1))))


if __name__ == "__main__":
    unittest.main()
