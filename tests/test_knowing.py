"""Promises 13.1, 13.2: behind how many draws a dealing is told, and by whose things."""

import fractions
import random
import unittest

from fullorring.knowing import earliest, is_telling, latest, mean_told, quickest, telling, told_after
from fullorring.tables import Table, beside, full, kept, names, ring, turned, with_tie
from plain import (
    CUSTOMS, STUCK, TABLE_5000, TABLE_5001, W, PlainTest, all_tables, great_table, listed, odd_customs, odd_numbers, odd_tuples,
    odd_turns, pair, plain_chances, shuffled, some_tables, subsets, turns, with_dealing,
)

TURN = (1, 0, 2)
IDLE = Table(((0,), (0, 1, 2), (1, 2)))


def plain_told(rows, turn, lot):
    """The least number of draws behind which no other dealing has the same things."""
    for many in range(len(rows) + 1):
        if len([one for one in listed(rows) if all(one[who] == lot[who] for who in turn[:many])]) == 1:
            return many
    return None


def is_plain_telling(rows, people):
    return len({tuple(lot[person] for person in people) for lot in listed(rows)}) == len(listed(rows))


def drawn():
    found = [(table, turn) for size in (1, 2, 3) for table in all_tables(size) for turn in turns(size)]
    found += [(table, turn) for at, table in enumerate(some_tables(4, 120)) for turn in turns(4)[at % 6::6]]
    found += [(table, turn) for at, table in enumerate(some_tables(5, 24)) for turn in turns(5)[at % 40::40]]
    found += [(table, turn) for table in (W, IDLE, names(4), ring(4), beside(names(2), W)) for turn in turns(table.size)[::7]]
    return [(table, turn) for table, turn in found if listed(table.rows)]


class ToldTest(PlainTest):

    def test_told_after_latest_and_earliest(self):
        for table, turn in drawn():
            found = [plain_told(table.rows, turn, lot) for lot in listed(table.rows)]
            for lot, number in zip(listed(table.rows), found):
                self.assertEqual(told_after(table, turn, lot), number, (table.rows, turn, lot))
            self.assertEqual(latest(table, turn), max(found), (table.rows, turn))
            self.assertEqual(earliest(table, turn), min(found), (table.rows, turn))

    def test_mean_told(self):
        for table, turn in drawn()[::3]:
            for custom in CUSTOMS:
                shares = plain_chances(table.rows, turn, custom)
                mean = sum((share * plain_told(table.rows, turn, lot) for lot, share in shares.items()), fractions.Fraction(0))
                self.assertEqual(mean_told(table, turn, custom), pair(mean), (table.rows, turn, custom))

    def test_examples(self):
        self.assertEqual(latest(ring(3), (0, 1, 2)), 1)
        self.assertEqual(latest(full(1), (0,)), 0)
        self.assertEqual(earliest(full(1), (0,)), 0)
        self.assertEqual(told_after(full(1), (0,), (0,)), 0)
        for custom in CUSTOMS:
            self.assertEqual(mean_told(full(1), (0,), custom), (0, 1))
            self.assertEqual(mean_told(ring(5), (3, 1, 0, 2, 4), custom), (1, 1))
            self.assertEqual(mean_told(full(4), (3, 1, 0, 2), custom), (3, 1))
        self.assertEqual([told_after(W, (0, 1, 2), lot) for lot in listed(W.rows)], [2, 2, 2, 2])
        # The person 0 gets the thing 0 anyhow, so that the draw of the next one tells all.
        self.assertEqual([latest(IDLE, (0, 1, 2)), earliest(IDLE, (0, 1, 2)), latest(IDLE, TURN)], [2, 2, 1])
        self.assertEqual((earliest(names(4), (0, 1, 2, 3)), latest(names(4), (0, 1, 2, 3))), (2, 3))

    def test_as_many_dealings_as_can_be(self):
        turn = tuple(range(9))
        for custom in CUSTOMS:
            top, bottom = mean_told(TABLE_5000, turn, custom)
            self.assertLess(top, 9 * bottom)
            for table in (TABLE_5001, full(8), great_table()):
                self.assert_raises("TooMany", {"most": 5000}, mean_told, table, tuple(range(table.size)), custom)
        top, bottom = mean_told(TABLE_5000, turn, "strict")
        self.assertEqual(5000 % bottom, 0)
        for table in (TABLE_5001, full(12), names(12), beside(full(12), full(12))):
            turn = tuple(range(table.size))[::-1]
            self.assertEqual(latest(table, turn), table.size - 1)

    def test_more_than_twelve_people(self):
        table = beside(beside(ring(12), names(4)), full(2))
        turn = tuple(range(18))
        self.assertEqual((earliest(table, turn), latest(table, turn)), (17, 17))
        self.assertEqual((earliest(table, turn[::-1]), latest(table, turn[::-1])), (7, 7))
        lot = tuple(range(12)) + (13, 12, 15, 14, 16, 17)
        self.assertEqual(told_after(table, turn, lot), 17)
        self.assertEqual(told_after(table, (12, 13, 0, 16, 14) + (1, 2, 3, 4, 5, 6, 7, 8, 9, 10, 11, 15, 17), lot), 4)
        self.assertEqual(mean_told(table, turn, "ahead"), (17, 1))
        self.assertEqual(mean_told(table, turn[::-1], "anew"), (7, 1))
        great = great_table()
        self.assertEqual(latest(great, tuple(range(40))), 39)
        self.assertEqual(latest(great, tuple(range(40))[::-1]), 39)
        self.assertEqual(earliest(great, (24, 0) + tuple(range(1, 24)) + tuple(range(25, 40))), 39)
        chain = beside(ring(12), ring(12))
        chain = with_tie(with_tie(chain, 0, 13), 12, 1)
        self.assertEqual(earliest(chain, tuple(range(24))), 1)
        self.assertEqual(latest(chain, tuple(range(24))), 13)

    def test_no_turn(self):
        for turn in odd_turns(3):
            for table in (W, STUCK):
                for lot in ((1, 0, 2), None):
                    self.assert_raises("NoTurn", {}, told_after, table, turn, lot)
                self.assert_raises("NoTurn", {}, latest, table, turn)
                self.assert_raises("NoTurn", {}, earliest, table, turn)
                self.assert_raises("NoTurn", {}, mean_told, table, turn, "ahead")
                self.assert_raises("NoTurn", {}, mean_told, table, turn, None)
        self.assert_raises("NoTurn", {}, mean_told, full(8), tuple(range(7)), "ahead")

    def test_no_custom(self):
        for custom in odd_customs():
            for table in (W, STUCK):
                self.assert_raises("NoCustom", {}, mean_told, table, TURN, custom)
            self.assert_raises("NoCustom", {}, mean_told, full(8), tuple(range(8)), custom)

    def test_no_dealing(self):
        for lot in odd_tuples((1, 0, 2)) + [(0, 1, 2), (1, 0), (1, 0, 0), (1, 0, None), (1, 0, 3), (1, 2, 0, 3)]:
            self.assert_raises("NoDealing", {}, told_after, W, TURN, lot)
            self.assert_raises("NoDealing", {}, told_after, STUCK, TURN, lot)

    def test_stuck(self):
        for table in (STUCK, Table(((), (0, 1, 2), (0, 1, 2)))):
            self.assert_raises("Stuck", {}, latest, table, TURN)
            self.assert_raises("Stuck", {}, earliest, table, TURN)
            for custom in CUSTOMS:
                self.assert_raises("Stuck", {}, mean_told, table, TURN, custom)
            for function in (quickest, telling):
                self.assert_raises("Stuck", {}, function, table)
                self.assert_raises("Stuck", {}, function, beside(table, full(9)))
            for people in ((), (0, 1), None):
                self.assert_raises("Stuck", {}, is_telling, table, people)


class TellingTest(PlainTest):

    def tables(self):
        return with_dealing(all_tables(1) + all_tables(2) + all_tables(3) + some_tables(4, 60) + some_tables(5, 24)
                            + [names(5), ring(6), beside(W, ring(3)), shuffled(beside(W, full(2))), beside(full(3), full(2))])

    def test_telling(self):
        for table in self.tables():
            right = [people for people in subsets(range(table.size)) if is_plain_telling(table.rows, people)]
            self.assertEqual(telling(table), min((len(people), people) for people in right), table.rows)
            for people in subsets(range(table.size)):
                self.assert_flag(people in right, is_telling(table, people), table.rows, people)

    def test_quickest(self):
        for table in self.tables():
            if table.size > 4:
                continue
            found = [(max(plain_told(table.rows, turn, lot) for lot in listed(table.rows)), turn) for turn in turns(table.size)]
            self.assertEqual(quickest(table), min(found), table.rows)
        for table in self.tables() + some_tables(6, 12) + [names(6), shuffled(beside(names(3), W)), beside(ring(4), ring(4))]:
            if not listed(table.rows):
                continue
            number, turn = quickest(table)
            self.assertEqual(latest(table, turn), number)
            for people in subsets(range(table.size)):
                self.assertFalse(len(people) < number and is_plain_telling(table.rows, people), (table.rows, people))
                if len(people) == number and people + tuple(one for one in range(table.size) if one not in people) < turn:
                    self.assertFalse(is_plain_telling(table.rows, people), (table.rows, people))

    def test_examples(self):
        self.assertEqual(quickest(full(1)), (0, (0,)))
        self.assertEqual(telling(full(1)), (0, ()))
        self.assert_flag(True, is_telling(full(1), ()))
        self.assertEqual(telling(Table(((0,), (0, 1)))), (0, ()))
        self.assertEqual(telling(ring(12)), (1, (0,)))
        self.assertEqual(telling(full(6)), (5, (0, 1, 2, 3, 4)))
        self.assertEqual(telling(beside(ring(4), beside(full(1), full(2)))), (2, (0, 5)))
        self.assertEqual(quickest(beside(ring(4), beside(full(1), full(2)))), (2, (0, 5, 1, 2, 3, 4, 6)))
        for people in ((), (0,), (1,), (0, 1), (0, 1, 2)):
            self.assert_flag(len(people) >= 1, is_telling(ring(3), people))

    def test_the_least_of_many_that_tell(self):
        for rows, number, people in [
            (((0, 1, 2, 3), (3, 4), (1, 2, 3, 4), (0, 1), (0, 1, 2)), 3, (0, 1, 4)),
            (((0, 3), (5,), (0, 1, 4, 6), (0, 1, 2, 3, 5, 6), (3, 4, 5, 6), (0, 2, 5), (0, 1, 2, 3, 4, 6)), 3, (2, 3, 6)),
            (((0, 2, 3, 5), (4, 5), (0, 1, 2, 5), (1, 4), (1, 2, 3, 4), (0, 3)), 3, (0, 1, 4)),
            (((0, 1, 2, 3, 4), (0, 2, 4, 5), (0, 1, 2), (0, 1), (1, 3, 4), (0, 1, 4, 5)), 4, (0, 1, 2, 5)),
        ]:
            right = [lot for lot in subsets(range(len(rows))) if is_plain_telling(rows, lot)]
            self.assertEqual(min((len(lot), lot) for lot in right), (number, people))
            self.assertEqual(telling(Table(rows)), (number, people))
            rest = tuple(person for person in range(len(rows)) if person not in people)
            self.assertEqual(quickest(Table(rows)), (number, people + rest))

    def test_eight_people_and_nine(self):
        self.assertEqual(quickest(full(8)), (7, tuple(range(8))))
        self.assertEqual(quickest(names(8)), (7, tuple(range(8))))
        self.assertEqual(quickest(ring(8)), (1, tuple(range(8))))
        for table in (full(9), ring(9), names(12), great_table(), beside(W, names(6))):
            self.assert_raises("TooMany", {"most": 8}, quickest, table)

    def test_as_many_dealings_as_can_be(self):
        number, people = telling(TABLE_5000)
        self.assertTrue(is_plain_telling(TABLE_5000.rows, people))
        self.assertEqual(len(people), number)
        self.assert_flag(True, is_telling(TABLE_5000, people))
        self.assert_flag(False, is_telling(TABLE_5000, people[1:]))
        for table in (TABLE_5001, full(7), great_table()):
            self.assert_raises("TooMany", {"most": 5000}, telling, table)
            for thing in ((), None, tuple(range(table.size)), [0]):
                self.assert_raises("TooMany", {"most": 5000}, is_telling, table, thing)

    def test_more_than_twelve_people(self):
        table = beside(shuffled(beside(ring(6), W)), beside(ring(12), W))
        number, people = telling(table)
        self.assertEqual(number, 1 + 2 + 1 + 2)
        self.assert_flag(True, is_telling(table, people))
        for person in people:
            self.assert_flag(False, is_telling(table, tuple(one for one in people if one != person)))
        self.assertEqual(telling(turned(table))[0], number)
        many = ring(2)
        for _ in range(11):
            many = beside(many, ring(2))
        self.assertEqual(telling(many), (12, tuple(range(0, 24, 2))))
        self.assertEqual(telling(kept(many, tuple(range(20)), tuple(range(20))))[0], 10)

    def test_wrong_people(self):
        self.assert_flag(True, is_telling(W, (0, 1)))
        wrong = [[0, 1], (1, 0), (0, 0, 1), (0, 3), (0, 1, 2, 3), (-1, 0, 1), (False, 1), (0, True), (0, None), (0, "1"), (0, (1,)), {0: 1, 1: 1},
                 range(2), "01", (0, 1, 10 ** 59), ((0, 1),), (0, [1]), (0, full(1))]
        for people in wrong + odd_numbers() + odd_tuples((0, 1)):
            self.assert_flag(False, is_telling(W, people), people)
        for people in wrong + [None, 0, "0", [0]]:
            self.assert_flag(False, is_telling(full(1), people), people)

    def test_pieces_of_chance(self):
        chance_of = random.Random(12)
        for table in with_dealing(some_tables(7, 12) + some_tables(6, 16)):
            if len(listed(table.rows)) > 5000:
                continue
            number, people = telling(table)
            self.assertTrue(is_plain_telling(table.rows, people), table.rows)
            for _ in range(12):
                some = tuple(sorted(chance_of.sample(range(table.size), chance_of.randrange(table.size + 1))))
                right = is_plain_telling(table.rows, some)
                self.assert_flag(right, is_telling(table, some), table.rows, some)
                self.assertFalse(right and (len(some), some) < (number, people), (table.rows, some))


if __name__ == "__main__":
    unittest.main()
