"""Promises 15.1, 15.2: things that are copies, and the sixth fact."""

import collections
import fractions
import random
import unittest

from fullorring.chances import chance
from fullorring.copies import copies_alike, many_outcomes, outcome, outcome_chance, outcomes_even, weights
from fullorring.even import is_even
from fullorring.numbers import many_dealings
from fullorring.tables import Table, beside, full, names, ring, turned
from plain import (
    CUSTOMS, STUCK, TABLE_5000, TABLE_5001, W, PlainTest, all_tables, great_table, listed, odd_customs, odd_numbers, odd_tuples,
    odd_turns, pair, plain_chances, shuffled, some_tables, turns, with_dealing,
)

TURN = (1, 0, 2)
LOOKS = (0, 0, 1)


def plain_outcome(looks, lot):
    return tuple(looks[thing] for thing in lot)


def plain_outcomes(rows, looks, turn, custom):
    """The dict from all outcomes to their chances."""
    found = collections.defaultdict(fractions.Fraction)
    for lot, share in plain_chances(rows, turn, custom).items():
        found[plain_outcome(looks, lot)] += share
    return dict(found)


def drawn():
    """Tables with a dealing, with looks and a turn."""
    chance_of = random.Random(2)
    found = []
    for table in with_dealing(all_tables(1) + all_tables(2) + all_tables(3)[::2] + some_tables(4, 80) + some_tables(5, 16)
                              + [W, ring(4), names(4), full(4), beside(names(2), W), shuffled(beside(W, ring(2)))]):
        for many in (1, 2, 3, 12):
            looks = tuple(chance_of.randrange(many) for _ in range(table.size))
            found.append((table, looks, chance_of.choice(turns(table.size))))
        found.append((table, tuple(range(table.size)), chance_of.choice(turns(table.size))))
        found.append((table, (chance_of.randrange(12),) * table.size, chance_of.choice(turns(table.size))))
    return found


class OutcomeTest(PlainTest):

    def test_outcomes_and_weights(self):
        for table, looks, _ in drawn():
            found = collections.Counter()
            for lot in listed(table.rows):
                self.assertEqual(outcome(table, looks, lot), plain_outcome(looks, lot))
                found[plain_outcome(looks, lot)] += 1
            self.assertEqual(weights(table, looks), dict(found), (table.rows, looks))
            self.assertEqual(many_outcomes(table, looks), len(found))

    def test_chances(self):
        for table, looks, turn in drawn()[::4]:
            for custom in CUSTOMS:
                found = plain_outcomes(table.rows, looks, turn, custom)
                for lot, share in found.items():
                    told = outcome_chance(table, looks, turn, custom, lot)
                    self.assertEqual(told, pair(share), (table.rows, looks, turn, custom, lot))
                self.assert_flag(len(set(found.values())) == 1, outcomes_even(table, looks, turn, custom), table.rows, looks, turn)

    def test_all_alike_and_all_unlike(self):
        for table, looks, turn in drawn():
            if len(set(looks)) == 1:
                self.assertEqual(weights(table, looks), {looks: len(listed(table.rows))})
                for custom in CUSTOMS:
                    self.assertEqual(outcome_chance(table, looks, turn, custom, looks), (1, 1))
                    self.assert_flag(True, outcomes_even(table, looks, turn, custom))
            if looks == tuple(range(table.size)):
                self.assertEqual(weights(table, looks), {lot: 1 for lot in listed(table.rows)})
                for custom in CUSTOMS:
                    self.assert_flag(is_even(table, turn, custom), outcomes_even(table, looks, turn, custom))
                    for lot in listed(table.rows)[:3]:
                        self.assertEqual(outcome_chance(table, looks, turn, custom, lot), chance(table, turn, custom, lot))

    def test_no_others_are_outcomes(self):
        for table, looks, turn in drawn()[::5]:
            if table.size > 3:
                continue
            some = sorted(set(looks) | {0, 1})
            right = weights(table, looks)
            waiting = [()]
            for lot in waiting:
                if len(lot) < table.size:
                    waiting += [lot + (look,) for look in some]
                if lot not in right:
                    self.assert_raises("NoOutcome", {}, outcome_chance, table, looks, turn, "ahead", lot)

    def test_the_sixth_fact(self):
        found = []
        for table, looks, _ in drawn():
            takers = turned(table).rows
            alike = all(takers[one] == takers[other] for one in range(table.size) for other in range(table.size)
                        if looks[one] == looks[other])
            self.assert_flag(alike, copies_alike(table, looks), table.rows, looks)
            found.append(alike)
            if alike:
                self.assertEqual(len(set(weights(table, looks).values())), 1, (table.rows, looks))
        self.assertGreater(found.count(True), 100)
        self.assertGreater(found.count(False), 100)

    def test_examples(self):
        self.assertEqual(outcome(W, LOOKS, (1, 0, 2)), (0, 0, 1))
        self.assertEqual(weights(W, LOOKS), {(0, 0, 1): 1, (0, 1, 0): 1, (1, 0, 0): 2})
        self.assertEqual(many_outcomes(W, LOOKS), 3)
        self.assert_flag(False, copies_alike(W, LOOKS))
        self.assert_flag(True, copies_alike(W, (0, 1, 1)))
        self.assertEqual(weights(W, (11, 0, 0)), {(0, 11, 0): 2, (0, 0, 11): 2})
        self.assertEqual(outcome_chance(W, (11, 0, 0), (0, 1, 2), "ahead", (0, 11, 0)), (1, 2))
        self.assertEqual(outcome_chance(W, LOOKS, (0, 1, 2), "ahead", (1, 0, 0)), (1, 2))
        self.assert_flag(True, outcomes_even(full(5), (3, 3, 7, 7, 7), (4, 2, 1, 0, 3), "near"))
        # A table without a dealing has looks, too.
        self.assert_flag(True, copies_alike(STUCK, (0, 1, 1)))
        self.assert_flag(False, copies_alike(STUCK, (0, 0, 1)))

    def test_as_many_dealings_as_can_be(self):
        looks = (0, 0, 0, 1, 1, 1, 2, 2, 11)
        turn = tuple(range(9))[::-1]
        found = weights(TABLE_5000, looks)
        self.assertEqual(sum(found.values()), 5000)
        self.assertEqual(len(found), many_outcomes(TABLE_5000, looks))
        for custom in CUSTOMS:
            self.assert_flag(False, outcomes_even(TABLE_5000, looks, turn, custom))
        lot = min(found)
        self.assertEqual(outcome_chance(TABLE_5000, looks, turn, "strict", lot), pair(fractions.Fraction(found[lot], 5000)))
        self.assertEqual(many_outcomes(TABLE_5000, tuple(range(9))), 5000)
        for table in (TABLE_5001, full(7), great_table(), names(12)):
            looks = tuple(at % 12 for at in range(table.size))
            turn = tuple(range(table.size))
            lot = plain_outcome(looks, tuple(range(1, table.size)) + (0,))
            self.assert_raises("TooMany", {"most": 5000}, many_outcomes, table, looks)
            self.assert_raises("TooMany", {"most": 5000}, weights, table, looks)
            self.assert_raises("TooMany", {"most": 5000}, outcomes_even, table, looks, turn, "ahead")
            if table in (full(7), names(12)):
                self.assert_raises("TooMany", {"most": 5000}, outcome_chance, table, looks, turn, "ahead", lot)
            self.assert_raises("NoOutcome", {}, outcome_chance, table, looks, turn, "ahead", (0,) * table.size)
        self.assert_flag(True, copies_alike(full(12), (0,) * 12))

    def test_more_than_twelve_people(self):
        table = beside(beside(W, ring(12)), names(4))
        looks = (0, 0, 1) + (2, 3) * 6 + (4, 4, 5, 5)
        turn = tuple(range(19))[::-1]
        parts = [weights(W, (0, 0, 1)), weights(ring(12), (2, 3) * 6), weights(names(4), (4, 4, 5, 5))]
        right = {one + two + three: parts[0][one] * parts[1][two] * parts[2][three]
                 for one in parts[0] for two in parts[1] for three in parts[2]}
        self.assertEqual(weights(table, looks), right)
        lot = min(right)
        share = fractions.Fraction(1)
        for part, own, order, first in ((W, (0, 0, 1), (2, 1, 0), lot[:3]), (ring(12), (2, 3) * 6, tuple(range(12))[::-1], lot[3:15]),
                                        (names(4), (4, 4, 5, 5), (3, 2, 1, 0), lot[15:])):
            share *= fractions.Fraction(*outcome_chance(part, own, order, "ahead", first))
        self.assertEqual(outcome_chance(table, looks, turn, "ahead", lot), pair(share))
        self.assert_flag(False, outcomes_even(table, looks, turn, "anew"))
        many = ring(2)
        for _ in range(11):
            many = beside(many, ring(2))
        self.assertEqual(many_dealings(many), 4096)
        self.assertEqual(many_outcomes(many, tuple(at // 2 for at in range(24))), 1)
        self.assertEqual(many_outcomes(many, (0, 1) * 12), 4096)
        self.assert_flag(True, outcomes_even(many, (0, 1) * 12, tuple(range(24)), "near"))


class WrongThingsTest(PlainTest):

    def test_no_looks(self):
        wrong = [(0, 0), (0, 0, 1, 1), (0, 0, 12), (0, -1, 0), [0, 0, 1], (0, 0, True), (False, 0, 0), (0, 0, None), (0, 0, "1"), (0, 0, (1,)),
                 "001", {0: 0, 1: 0, 2: 1}, range(3), (), None, (0, 0, 10 ** 59), 0]
        wrong += [thing for thing in odd_numbers() + odd_tuples(LOOKS)
                  if not (isinstance(thing, tuple) and len(thing) == 3 and all(one.__class__ is int and 0 <= one < 12 for one in thing))]
        for looks in wrong:
            for table in (W, STUCK, beside(full(9), W)):
                self.assert_raises("NoLooks", {}, outcome, table, looks, (1, 0, 2))
                self.assert_raises("NoLooks", {}, outcome, table, looks, None)
                self.assert_raises("NoLooks", {}, many_outcomes, table, looks)
                self.assert_raises("NoLooks", {}, weights, table, looks)
                self.assert_raises("NoLooks", {}, copies_alike, table, looks)
                for turn in (TURN, None):
                    self.assert_raises("NoLooks", {}, outcome_chance, table, looks, turn, None, None)
                    self.assert_raises("NoLooks", {}, outcomes_even, table, looks, turn, None)
        self.assertEqual(outcome(W, (11, 11, 11), (1, 0, 2)), (11, 11, 11))

    def test_no_turn(self):
        for turn in odd_turns(3):
            for table in (W, STUCK):
                for custom in ("ahead", None):
                    self.assert_raises("NoTurn", {}, outcome_chance, table, LOOKS, turn, custom, None)
                    self.assert_raises("NoTurn", {}, outcomes_even, table, LOOKS, turn, custom)

    def test_no_custom(self):
        for custom in odd_customs():
            for table in (W, STUCK):
                self.assert_raises("NoCustom", {}, outcome_chance, table, LOOKS, TURN, custom, None)
                self.assert_raises("NoCustom", {}, outcomes_even, table, LOOKS, TURN, custom)

    def test_no_outcome(self):
        right = (0, 0, 1)
        self.assertEqual(outcome_chance(W, LOOKS, TURN, "ahead", right), (1, 6))
        wrong = [(0, 0), (0, 0, 1, 0), [0, 0, 1], (0, 0, 2), (0, 1, 1), (0, 0, 0), (False, 0, 1), (0, False, 1), (0, 0, True), (0, 0, None),
                 (0, 0, "1"), (0, 0, (1,)), "001", {0: 0, 1: 0, 2: 1}, (0, 0, 10 ** 59), (0, 0, -1), ((0, 0, 1),), range(3)]
        wrong += [thing for thing in odd_numbers() + odd_tuples(right)]
        for lot in wrong:
            for custom in CUSTOMS:
                self.assert_raises("NoOutcome", {}, outcome_chance, W, LOOKS, TURN, custom, lot)
        for lot in (right, (1, 0, 0), None):
            self.assert_raises("NoOutcome", {}, outcome_chance, STUCK, LOOKS, TURN, "near", lot)

    def test_no_dealing(self):
        for lot in odd_tuples((1, 0, 2)) + [(0, 1, 2), (1, 0), (1, 0, 0), (1, 0, None), (1, 0, 3)]:
            self.assert_raises("NoDealing", {}, outcome, W, LOOKS, lot)
            self.assert_raises("NoDealing", {}, outcome, STUCK, LOOKS, lot)

    def test_stuck(self):
        for table in (STUCK, Table(((), (0, 1, 2), (0, 1, 2)))):
            self.assert_raises("Stuck", {}, many_outcomes, table, LOOKS)
            self.assert_raises("Stuck", {}, weights, table, LOOKS)
            for custom in CUSTOMS:
                self.assert_raises("Stuck", {}, outcomes_even, table, LOOKS, TURN, custom)

    def test_dicts_are_new(self):
        self.assert_new(weights, W, LOOKS)
        self.assert_new(weights, full(1), (3,))


if __name__ == "__main__":
    unittest.main()
