"""Promise 6.3: heights."""

import fractions
import unittest

from fullorring.chances import likeliest
from fullorring.errors import NoPerson
from fullorring.heights import heights, is_heights
from fullorring.tables import Table, beside, full, names, ring
from plain import (
    STUCK, W, PlainTest, all_tables, choices, listed, odd_numbers, odd_turns, odd_tuples, pair, shuffled, some_tables,
    turns, with_dealing,
)

TURN = (1, 0, 2)


def drawn():
    found = [(table, turn) for size in (1, 2) for table in all_tables(size) for turn in turns(size)]
    found += [(table, turn) for table in all_tables(3) for turn in turns(3)]
    found += [(table, turn) for at, table in enumerate(some_tables(4, 60)) for turn in turns(4)[at % 6::6]]
    found += [(table, turn) for at, table in enumerate(some_tables(5, 24)) for turn in turns(5)[at % 40::40]]
    return [(table, turn) for table, turn in found if listed(table.rows)]


def plain_steps(table, turn):
    """The dict from the lots that can have been drawn looking ahead to those that come by one thing more."""
    found = {(): []}
    waiting = [()]
    while waiting:
        things = waiting.pop()
        lot = tuple(sorted(things))
        if len(things) < table.size:
            behind = [things + (thing,) for thing in choices(table.rows, turn, "ahead", things)]
            found[lot] = sorted(tuple(sorted(one)) for one in behind)
            waiting += behind
        else:
            found[lot] = []
    return found


def plain_heights(table, turn):
    steps = plain_steps(table, turn)
    found = {}
    for lot in sorted(steps, key=len, reverse=True):
        found[lot] = max([found[one] for one in steps[lot]]) / len(steps[lot]) if steps[lot] else fractions.Fraction(1)
    return found


def told(found):
    return {lot: pair(share) for lot, share in found.items()}


class HeightsTest(PlainTest):

    def test_heights(self):
        for table, turn in drawn():
            found = heights(table, turn)
            self.assertEqual(found, told(plain_heights(table, turn)), (table.rows, turn))
            share = likeliest(table, turn, "ahead")[0]
            self.assertEqual(found[()], share)
            self.assert_flag(True, is_heights(table, turn, share, found), table.rows, turn)
            less = pair(fractions.Fraction(*share) * fractions.Fraction(99, 100))
            self.assert_flag(False, is_heights(table, turn, less, found), table.rows, turn)

    def test_each_may_be_greater_and_none_less(self):
        for table, turn in drawn()[::7]:
            found = plain_heights(table, turn)
            for lot in found:
                for share in (fractions.Fraction(1, 97), -fractions.Fraction(1, 97)):
                    changed = {**found, lot: found[lot] + share}
                    right = self.is_plain(table, turn, changed)
                    self.assert_flag(right, is_heights(table, turn, (5, 1), told(changed)), table.rows, turn, lot)
                    exact = pair(changed[()])
                    self.assert_flag(right, is_heights(table, turn, exact, told(changed)), table.rows, turn, lot)

    def is_plain(self, table, turn, found):
        steps = plain_steps(table, turn)
        return found[tuple(range(table.size))] == 1 and all(
            found[lot] * len(steps[lot]) >= found[one] for lot in steps for one in steps[lot]
        )

    def test_all_may_be_great(self):
        known = heights(W, TURN)
        great = {lot: (7, 1) if len(lot) < 3 else (1, 1) for lot in known}
        self.assert_flag(True, is_heights(W, TURN, (7, 1), great))
        self.assert_flag(False, is_heights(W, TURN, (6, 1), great))
        self.assert_flag(True, is_heights(W, TURN, (10 ** 59, 1), great))
        self.assert_flag(False, is_heights(W, TURN, (-7, 1), great))
        self.assert_flag(False, is_heights(W, TURN, (0, 1), known))


class EdgesTest(PlainTest):

    def test_examples(self):
        self.assertEqual(heights(full(1), (0,)), {(): (1, 1), (0,): (1, 1)})
        self.assertEqual(heights(ring(3), (0, 1, 2)), {
            (): (1, 2), (0,): (1, 1), (1,): (1, 1), (0, 1): (1, 1), (1, 2): (1, 1), (0, 1, 2): (1, 1),
        })
        self.assertEqual(heights(W, TURN)[()], (1, 3))
        self.assertEqual(heights(W, (0, 1, 2))[()], (1, 4))

    def test_nine_people_and_ten(self):
        turn = tuple(range(9))
        for table in (full(9), names(9), shuffled(ring(9)), beside(names(4), full(5))):
            found = heights(table, turn)
            share = likeliest(table, turn, "ahead")[0]
            self.assertEqual(found[()], share)
            self.assert_flag(True, is_heights(table, turn, share, found))
        self.assertEqual(len(heights(full(9), turn)), 512)
        for table in (full(10), ring(10), beside(full(12), ring(3))):
            turn = tuple(range(table.size))
            self.assert_raises("TooMany", {"most": 9}, heights, table, turn)
            self.assert_raises("TooMany", {"most": 9}, is_heights, table, turn, (1, 1), {})
            self.assert_raises("NoFraction", {}, is_heights, table, turn, (2, 2), {})
            self.assert_raises("NoTurn", {}, heights, table, turn[1:])
            self.assert_raises("NoTurn", {}, is_heights, table, turn[1:], (2, 2), {})
        stuck = beside(STUCK, full(9))
        self.assert_raises("Stuck", {}, heights, stuck, tuple(range(12)))
        self.assert_raises("Stuck", {}, is_heights, stuck, tuple(range(12)), (2, 2), {})

    def test_dicts_are_new(self):
        for table in (full(1), ring(3), full(3), W):
            self.assert_new(heights, table, tuple(range(table.size)))


class WrongThingsTest(PlainTest):

    def test_no_turn(self):
        for turn in odd_turns(3):
            for table in (W, STUCK):
                self.assert_raises("NoTurn", {}, heights, table, turn)
                self.assert_raises("NoTurn", {}, is_heights, table, turn, (1, 1), {})
                self.assert_raises("NoTurn", {}, is_heights, table, turn, None, None)

    def test_stuck(self):
        for turn in turns(3):
            self.assert_raises("Stuck", {}, heights, STUCK, turn)
            self.assert_raises("Stuck", {}, is_heights, STUCK, turn, (1, 1), {})
            self.assert_raises("Stuck", {}, is_heights, STUCK, turn, None, None)
        self.assert_raises("Stuck", {}, heights, names(1), (0,))

    WRONG = [
        (), (1,), (1, 2, 3), (2, 2), (2, 4), (0, 2), (0, 0), (1, 0), (1, -2), (-1, -2), (0, -1), [1, 2], "12", "1/2", {},
        (True, 2), (1, True), (True, True), (False, True), (None, 1), (1, None), ((1,), 2), (1, (2,)), ("1", 2), 1, 0,
        None, {1: 2}, range(1, 3), b"\x01\x02", (NoPerson(), 2), (full(2), 1), (10 ** 59, 10 ** 58),
    ]

    def test_no_fraction(self):
        known = heights(W, TURN)
        for bound in self.WRONG + odd_numbers() + odd_tuples((1, 2)):
            self.assert_raises("NoFraction", {}, is_heights, W, TURN, bound, known)
            self.assert_raises("NoFraction", {}, is_heights, W, TURN, bound, None)
        for bound in ((1, 1), (1, 3), (0, 1), (-5, 3), (10 ** 59, 1), (1, 10 ** 59), (10 ** 59 + 1, 10 ** 59)):
            self.assert_flag(bound[0] * 3 >= bound[1], is_heights(W, TURN, bound, known), bound)

    def test_no_heights(self):
        known = heights(W, TURN)
        for lot in known:
            for share in self.WRONG:
                self.assert_flag(False, is_heights(W, TURN, (1, 1), {**known, lot: share}), lot, share)
            less = {one: known[one] for one in known if one != lot}
            self.assert_flag(False, is_heights(W, TURN, (1, 1), less), lot)
            for other in ((0, 0), (2, 1, 0), (3,), None, "", 0, frozenset(), (0, (1,)), NoPerson):
                self.assert_flag(False, is_heights(W, TURN, (1, 1), {**known, other: (1, 1)}), other)
                self.assert_flag(False, is_heights(W, TURN, (1, 1), {**less, other: known[lot]}), lot, other)
        for thing in odd_numbers() + odd_tuples(TURN) + [list(known.items()), tuple(known.items()), tuple(known), []]:
            self.assert_flag(False, is_heights(W, TURN, (1, 1), thing), thing)
        self.assert_flag(False, is_heights(W, (0, 1, 2), (1, 1), known))
        self.assert_flag(False, is_heights(full(3), TURN, (1, 1), {lot: (1, 2) for lot in known}))

    def test_all_things_have_just_one(self):
        known = heights(full(2), (0, 1))
        for share in ((2, 1), (3, 2), (1, 2), (0, 1)):
            self.assert_flag(False, is_heights(full(2), (0, 1), (9, 1), {**known, (0, 1): share}), share)

    def test_arguments_stay(self):
        known = heights(W, TURN)
        before = dict(known)
        self.assert_flag(True, is_heights(W, TURN, (1, 3), known))
        self.assertEqual(known, before)
        self.assertEqual(W, Table(((1, 2), (0, 1, 2), (0, 1, 2))))
        self.assertEqual(len(with_dealing([W])), 1)


if __name__ == "__main__":
    unittest.main()
