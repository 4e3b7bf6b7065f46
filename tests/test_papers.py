"""Promise 7.3: papers and the second fact."""

import copy
import unittest

from fullorring.errors import NoTie
from fullorring.even import always_even
from fullorring.papers import is_paper, paper
from fullorring.pieces import is_filled_lot
from fullorring.tables import Table, beside, full, names, ring, ties, with_tie, without_tie
from plain import (
    STUCK, W, PlainTest, all_tables, great_table, listed, odd_numbers, odd_tuples, shuffled, some_tables, with_dealing,
)

# A ring, a full piece, and one person alone; idle ties from each to those behind it.
MIXED = with_tie(with_tie(with_tie(beside(beside(ring(3), full(2)), full(1)), 0, 3), 2, 5), 4, 5)


def tables():
    found = all_tables(1) + all_tables(2) + all_tables(3) + some_tables(4, 160) + some_tables(5, 60) + some_tables(6, 30)
    found += [W, full(4), names(4), ring(4), names(3), MIXED, shuffled(MIXED), beside(ring(3), ring(3)), ring(5)]
    found += [with_tie(ring(4), 0, 2), beside(names(3), full(2)), with_tie(beside(names(3), full(2)), 4, 0)]
    return with_dealing(found)


def used(table):
    return {(person, thing) for lot in listed(table.rows) for person, thing in enumerate(lot)}


def turned_round(steps):
    """The round in all its ways: begun with each person, either way."""
    found = []
    for at in range(0, len(steps), 2):
        one = steps[at:] + steps[:at]
        found += [one, one[:1] + one[:0:-1]]
    return found


class PapersTest(PlainTest):

    def test_there_is_one_just_if_the_table_is_always_even(self):
        for table in tables():
            found = paper(table)
            self.assertEqual(found is not None, always_even(table, "ahead"), table.rows)
            if found is not None:
                self.check_paper(table, found)
                self.assert_flag(True, is_paper(table, found), table.rows)
                self.assertEqual(paper(table), found)

    def check_paper(self, table, found):
        self.assertIs(found.__class__, tuple)
        parts, idle = found
        self.assertIs(parts.__class__, tuple)
        known = used(table)
        steps = []
        for part in parts:
            if part[0] == "full":
                steps += [(person, thing) for person in part[1] for thing in part[2]]
                self.assertEqual(len(part[1]), len(part[2]))
            else:
                self.assertEqual(part[0], "ring")
                turn = part[1]
                self.assertGreaterEqual(len(turn), 6)
                steps += [(turn[at], turn[at + 1]) for at in range(0, len(turn), 2)]
                steps += [(turn[at], turn[at - 1]) for at in range(0, len(turn), 2)]
        self.assertEqual(sorted(steps), sorted(known))
        self.assertEqual(sorted(idle), [tie for tie in ties(table) if tie not in known])
        for (person, thing), lot in idle.items():
            self.assert_flag(True, is_filled_lot(table, person, thing, lot))

    def test_great_tables(self):
        self.assertIs(paper(great_table()), None)
        table = shuffled(with_tie(beside(beside(full(12), ring(12)), beside(ring(12), full(4))), 0, 39))
        found = paper(table)
        self.assert_flag(True, is_paper(table, found))
        self.assertEqual(sorted(part[0] for part in found[0]), ["full", "full", "ring", "ring"])
        self.assertEqual(len(found[1]), 1)
        self.assert_flag(False, is_paper(table, (found[0], {})))
        self.assert_flag(False, is_paper(table, (found[0][1:], found[1])))

    def test_stuck(self):
        for table in (STUCK, names(1), beside(full(12), STUCK)):
            self.assert_raises("Stuck", {}, paper, table)
            for thing in (None, ((), {}), paper(full(3))):
                self.assert_raises("Stuck", {}, is_paper, table, thing)

    def test_answers_are_new(self):
        first = paper(MIXED)
        before = copy.deepcopy(first)
        first[1].clear()
        self.assertEqual(paper(MIXED), before)
        self.assert_flag(True, is_paper(MIXED, before))
        self.assertEqual(before, paper(MIXED))


class JudgingTest(PlainTest):

    IDLE = {(0, 3): (3, 4, 5), (2, 5): (5,), (4, 5): (5,)}
    RING = (0, 0, 2, 2, 1, 1)
    PARTS = (("ring", RING), ("full", (3, 4), (3, 4)), ("full", (5,), (5,)))

    def is_right(self, parts, idle):
        return is_paper(MIXED, (parts, idle))

    def test_it_is_one(self):
        self.assert_flag(True, self.is_right(self.PARTS, self.IDLE))
        self.assert_flag(True, self.is_right(self.PARTS[::-1], self.IDLE))
        for lot in ((3, 4, 5), (1, 2), ()):
            right = is_filled_lot(MIXED, 0, 3, lot)
            self.assert_flag(right, self.is_right(self.PARTS, {**self.IDLE, (0, 3): lot}), lot)

    def test_rounds_begin_with_anybody_and_go_either_way(self):
        self.assertEqual(len(set(turned_round(self.RING))), 6)
        for steps in turned_round(self.RING):
            self.assert_flag(True, self.is_right((("ring", steps),) + self.PARTS[1:], self.IDLE), steps)
        for size in range(3, 13):
            found = paper(shuffled(ring(size)))
            for steps in turned_round(found[0][0][1]):
                self.assert_flag(True, is_paper(shuffled(ring(size)), ((("ring", steps),), {})), steps)

    def test_wrong_rounds(self):
        wrong = [self.RING[:4], self.RING[:5], self.RING + (0,), self.RING + (0, 0), self.RING[1:] + self.RING[:1], (),
                 (0, 0, 1, 1, 2, 2), (0, 1, 2, 2, 1, 0), (0, 0, 2, 2, 0, 1), (0, 0, 2, 0, 1, 1), (0, 0, 2, 2, 1, 3),
                 (False, False, 2, 2, True, True), (0, 0, 2, 2, 1, None), (3, 3, 4, 4), (-1,) * 6, list(self.RING),
                 (0, 0, 2, 2, 1, 99), "002211", (0, 0, 2, 2, 1, "1")]
        for steps in wrong + odd_tuples(self.RING):
            self.assert_flag(False, self.is_right((("ring", steps),) + self.PARTS[1:], self.IDLE), steps)
        # Two people in full pieces are no ring of three or more.
        self.assert_flag(True, is_paper(full(2), ((("full", (0, 1), (0, 1)),), {})))
        self.assert_flag(False, is_paper(full(2), ((("ring", (0, 0, 1, 1)),), {})))
        self.assert_flag(False, is_paper(full(1), ((("ring", (0, 0)),), {})))
        self.assert_flag(False, is_paper(ring(3), ((("full", (0, 1, 2), (0, 1, 2)),), {})))
        # A tie of no round and no full piece that is not idle.
        self.assert_flag(False, is_paper(full(3), ((("ring", (0, 0, 1, 1, 2, 2)),), {})))
        self.assert_flag(False, is_paper(full(2), ((("full", (0,), (0,)), ("full", (1,), (1,))), {})))

    def test_wrong_parts(self):
        first, second, third = self.PARTS
        whole = [(first, second), (first, second, third, third), (first, second, third, first), (), (second, third),
                 (first, ("full", (3, 4, 5), (3, 4, 5))), (first, ("full", (4, 3), (3, 4)), third),
                 (first, ("full", (3, 4), (4, 3)), third), (first, ("full", (3,), (3, 4)), third),
                 (first, ("full", (3, 4), (3,)), third), (first, ("full", [3, 4], (3, 4)), third),
                 (first, ("full", (3, 4), [3, 4]), third), (first, second, third, ("full", (), ())),
                 (first, ["full", (3, 4), (3, 4)], third), (first, ("full", (3, 4)), third), (first, (), third),
                 (first, ("full", (3, 4), (3, 4), ()), third), (first, ("ring", (3, 4), (3, 4)), third),
                 (first, ("Full", (3, 4), (3, 4)), third), (first, (b"full", (3, 4), (3, 4)), third),
                 (first, ("full", (3, 4), (3, 5)), ("full", (5,), (4,))), (("full", self.RING), second, third),
                 (first, ("full", (3, 3), (3, 4)), third), (first, ("full", (3, 5), (3, 5)), ("full", (4,), (4,))),
                 (("ring",), second, third), (first, second, "full"), (first, second, None), (first, second, full(1)),
                 list(self.PARTS), {0: first, 1: second, 2: third}, None, 0, "full", self.PARTS + ("",)]
        for parts in whole:
            self.assert_flag(False, self.is_right(parts, self.IDLE), parts)
        for thing in odd_numbers():
            self.assert_flag(False, self.is_right((first, second, thing), self.IDLE), thing)
            self.assert_flag(False, self.is_right((first, second, (thing, (5,), (5,))), self.IDLE), thing)
        self.assert_flag(True, is_paper(names(2), ((("full", (0,), (1,)), ("full", (1,), (0,))), {})))
        for word in ("ring", "", "other", None):
            self.assert_flag(False, is_paper(names(2), (((word, (0, 1), (0, 1)), ("full", (1,), (0,))), {})))
        for thing in odd_tuples((3, 4)):
            self.assert_flag(False, self.is_right((first, ("full", thing, (3, 4)), third), self.IDLE), thing)
            self.assert_flag(False, self.is_right((first, ("full", (3, 4), thing), third), self.IDLE), thing)

    def test_wrong_idle(self):
        for tie in self.IDLE:
            less = {one: lot for one, lot in self.IDLE.items() if one != tie}
            self.assert_flag(False, self.is_right(self.PARTS, less), tie)
            for lot in odd_tuples((3, 4, 5)) + [(0,), (3,), (3, 4), (0, 1, 2), (4, 3, 5), (3, 4, 5, 6), [3, 4, 5], [5]]:
                self.assert_flag(False, self.is_right(self.PARTS, {**self.IDLE, tie: lot}), tie, lot)
            for other in (tie[::-1], tie + (0,), tie[:1], str(tie), None, 7, (tie,), (None, 0), (99, 3), (0, -1)):
                self.assert_flag(False, self.is_right(self.PARTS, {**less, other: self.IDLE[tie]}), other)
        # More keys: ties that are not idle, pairs that are no ties, and what is no pair.
        for key in ((0, 0), (3, 3), (0, 2), (5, 0), (0, 6), (6, 0), (0, "3"), ((0,), 3), "", 0, None, (), NoTie, b"03"):
            for lot in ((3, 4, 5), (), None, (5,), (0, 1, 2)):
                self.assert_flag(False, self.is_right(self.PARTS, {**self.IDLE, key: lot}), key, lot)
        for thing in odd_numbers() + [list(self.IDLE), tuple(self.IDLE.items()), {}, None, [], self.PARTS]:
            self.assert_flag(False, self.is_right(self.PARTS, thing), thing)

    def test_no_pairs(self):
        right = (self.PARTS, self.IDLE)
        for thing in odd_numbers() + [list(right), right + ({},), right[:1], right[::-1], self.PARTS, self.IDLE, (right,)]:
            self.assert_flag(False, is_paper(MIXED, thing), thing)
        before = copy.deepcopy(right)
        self.assert_flag(True, is_paper(MIXED, right))
        self.assertEqual(right, before)

    def test_of_another_table(self):
        self.assert_flag(False, is_paper(without_tie(MIXED, 0, 0), (self.PARTS, self.IDLE)))
        self.assert_flag(False, is_paper(without_tie(MIXED, 3, 4), (self.PARTS, self.IDLE)))
        self.assert_flag(False, is_paper(without_tie(MIXED, 2, 5), (self.PARTS, self.IDLE)))
        self.assert_flag(False, is_paper(with_tie(MIXED, 1, 5), (self.PARTS, self.IDLE)))
        self.assert_flag(False, is_paper(with_tie(MIXED, 5, 0), (self.PARTS, self.IDLE)))
        self.assert_flag(False, is_paper(Table(((0,), (0, 1))), ((("full", (0,), (0,)), ("full", (1,), (1,))), {})))
        self.assert_flag(True, is_paper(
            Table(((0,), (0, 1))), ((("full", (0,), (0,)), ("full", (1,), (1,))), {(1, 0): (0,)}),
        ))


if __name__ == "__main__":
    unittest.main()
