"""Promises 11.1, 11.2: exchanges behind a draw, islands, and stirring."""

import copy
import fractions
import random
import unittest

from fullorring.dealings import dealing
from fullorring.exchanging import exchanged, exchanges, is_carried, islands, parted, steps_between, stirred
from fullorring.numbers import many_dealings
from fullorring.tables import Table, beside, full, names, ring, turned, with_tie
from plain import (
    STUCK, TABLE_2000, TABLE_2001, TABLE_5000, W, PlainTest, great_table, listed, odd_numbers, odd_tuples, pair, shuffled,
    small_tables, with_dealing,
)

STEPS_OF_W = [(0, 1), (0, 2), (1, 2)]


def swapped(lot, one, other):
    found = list(lot)
    found[one], found[other] = lot[other], lot[one]
    return tuple(found)


def plain_pairs(rows, lot):
    """The pairs of people who come to another dealing by exchanging."""
    size = len(rows)
    return [(one, other) for one in range(size) for other in range(one + 1, size)
            if swapped(lot, one, other) in listed(rows)]


def distances(rows, start):
    """The dict from the dealings that are come to, to the fewest exchanges."""
    found = {start: 0}
    waiting = [start]
    for lot in waiting:
        for one in listed(rows):
            if one not in found and len([person for person in range(len(rows)) if one[person] != lot[person]]) == 2:
                found[one] = found[lot] + 1
                waiting.append(one)
    return found


def plain_islands(rows):
    return sorted({tuple(sorted(distances(rows, lot))) for lot in listed(rows)})


def some_chances(table, chance_of):
    """Some right chances, a few of them 0."""
    parts = [chance_of.choice((0, 0, 1, 2, 5, 10 ** 20 + 1)) for _ in listed(table.rows)]
    parts[chance_of.randrange(len(parts))] += 1
    return {lot: fractions.Fraction(part, sum(parts)) for lot, part in zip(listed(table.rows), parts)}


def told(shares):
    return {lot: pair(share) for lot, share in shares.items()}


def plain_stirred(rows, shares):
    size = len(rows)
    pairs = [(one, other) for one in range(size) for other in range(one + 1, size)]
    if not pairs:
        return dict(shares)
    found = dict.fromkeys(shares, fractions.Fraction(0))
    for lot, share in shares.items():
        for one, other in pairs:
            after = swapped(lot, one, other)
            found[after if after in shares else lot] += share / len(pairs)
    return found


class ExchangesTest(PlainTest):

    def test_exchanges(self):
        for table in with_dealing(small_tables()):
            for lot in listed(table.rows)[:40]:
                self.assertEqual(exchanges(table, lot), plain_pairs(table.rows, lot), (table.rows, lot))

    def test_examples(self):
        self.assertEqual(exchanges(full(1), (0,)), [])
        self.assertEqual(exchanges(full(3), (2, 0, 1)), STEPS_OF_W)
        self.assertEqual(exchanges(W, (1, 0, 2)), [(0, 2), (1, 2)])
        self.assertEqual(exchanges(ring(3), (0, 1, 2)), [])
        self.assertEqual(len(exchanges(great_table(), tuple(range(12)) + (13, 12, 15, 14, 17, 16, 19, 18, 21, 20, 23, 22)
                                       + tuple(range(24, 40)))), 66 + 60 + 6)

    def test_exchanged(self):
        chance_of = random.Random(4)
        for table in with_dealing(small_tables())[::3]:
            lot = chance_of.choice(listed(table.rows))
            steps, at = [], lot
            for _ in range(12):
                self.assertEqual(exchanged(table, lot, steps), at)
                self.assertEqual(exchanged(table, lot, tuple(steps)), at)
                self.assertIs(exchanged(table, lot, steps).__class__, tuple)
                pairs = plain_pairs(table.rows, at)
                for one in range(table.size):
                    for other in range(table.size):
                        if (one, other) not in pairs:
                            self.assert_raises("NoSteps", {}, exchanged, table, lot, steps + [(one, other)])
                if not pairs:
                    break
                steps.append(chance_of.choice(pairs))
                at = swapped(at, *steps[-1])

    def test_many_steps(self):
        self.assertEqual(exchanged(full(3), (0, 1, 2), [(0, 1)] * 4999), (1, 0, 2))
        self.assertEqual(exchanged(full(3), (0, 1, 2), ((0, 1),) * 5000), (0, 1, 2))
        self.assert_raises("NoSteps", {}, exchanged, full(3), (0, 1, 2), [(0, 1)] * 4999 + [(1, 0)])

    def test_no_steps(self):
        right = (0, 2)
        for step in [(2, 0), (0, 1), (0, 0), (0, 3), (-1, 2), (0,), (0, 2, 0), [0, 2], "02", b"02", (0, "2"), ((0,), 2), None, 0,
                     {0: 2}, (False, 2), (0, None), range(0, 4, 2), full(2), (right,)] + odd_numbers() + odd_tuples(right):
            if step != right or isinstance(step, list):
                for steps in ([step], (step,), [right, step], [right, right, step], [step, right]):
                    self.assert_raises("NoSteps", {}, exchanged, W, (1, 0, 2), steps)
        # A flag is no number: nobody may pass (False, True) for (0, 1).
        self.assertEqual(exchanged(full(3), (0, 1, 2), [(0, 1)]), (1, 0, 2))
        for step in ((False, True), (0, True), (False, 1)):
            self.assert_raises("NoSteps", {}, exchanged, full(3), (0, 1, 2), [step])
        for steps in [{right: 1}, {}, "", "02", b"", range(0), None, 0, True, len, right, [0, 2], iter([right]), full(2),
                      Table(((0,),))] + [thing for thing in odd_numbers() if thing not in ((), [])]:
            self.assert_raises("NoSteps", {}, exchanged, W, (1, 0, 2), steps)

    def test_no_dealing(self):
        for table, right in ((W, (1, 0, 2)), (STUCK, (0, 1, 2)), (full(3), (0, 1, 2))):
            wrong = [(0, 1, 2)] if table is W else []
            for lot in odd_tuples(right) + wrong + [right[:2], right + (0,), (0, 0, 1), right[:2] + (None,), (0, 1, 3)]:
                self.assert_raises("NoDealing", {}, exchanges, table, lot)
                for steps in ([], None, [(0, 9)]):
                    self.assert_raises("NoDealing", {}, exchanged, table, lot, steps)
                self.assert_raises("NoDealing", {}, steps_between, table, lot, right)
                self.assert_raises("NoDealing", {}, steps_between, table, right, lot)
        for lot in ((), None, tuple(range(8))):
            self.assert_raises("NoDealing", {}, steps_between, full(8), tuple(range(8)), lot + (9,) if lot else lot)
            self.assert_raises("NoDealing", {}, steps_between, full(8), lot if lot is None else (), tuple(range(8)))


class IslandsTest(PlainTest):

    def test_steps_between(self):
        for table in with_dealing(small_tables())[::2]:
            lots = listed(table.rows)
            for one in lots[:4]:
                near = distances(table.rows, one)
                for other in lots[::1 + len(lots) // 20]:
                    steps = steps_between(table, one, other)
                    if other not in near:
                        self.assertIs(steps, None)
                        continue
                    self.assertIs(steps.__class__, list)
                    self.assertEqual(len(steps), near[other], (table.rows, one, other))
                    self.assertEqual(exchanged(table, one, steps), other)

    def test_islands(self):
        for table in with_dealing(small_tables()):
            if len(listed(table.rows)) > 60:
                continue
            found = islands(table)
            self.assertEqual(found, plain_islands(table.rows), table.rows)
            self.assert_flag(len(found) == 1, is_carried(table), table.rows)
            apart = parted(table)
            self.assertEqual(apart is None, len(found) == 1)
            if apart is not None:
                self.assertIs(apart.__class__, tuple)
                one, other = apart
                self.assertIn(one, listed(table.rows))
                self.assertIn(other, listed(table.rows))
                self.assertNotIn(other, distances(table.rows, one))

    def test_examples(self):
        self.assertEqual(islands(ring(3)), [((0, 1, 2),), ((1, 2, 0),)])
        self.assertEqual(islands(full(1)), [((0,),)])
        self.assertEqual(islands(Table(((0,), (0, 1)))), [((0, 1),)])
        self.assertEqual(islands(full(6)), [listed(full(6).rows)])
        self.assert_flag(True, is_carried(full(6)))
        self.assert_flag(False, is_carried(ring(12)))
        self.assertEqual(parted(full(5)), None)
        self.assertEqual(set(parted(ring(4))), {(0, 1, 2, 3), (1, 2, 3, 0)})
        self.assertEqual(steps_between(ring(3), (0, 1, 2), (1, 2, 0)), None)
        self.assertEqual(steps_between(full(3), (0, 1, 2), (0, 1, 2)), [])
        self.assertEqual(steps_between(full(2), (0, 1), (1, 0)), [(0, 1)])
        self.assertEqual(len(steps_between(full(6), (0, 1, 2, 3, 4, 5), (1, 2, 3, 4, 5, 0))), 5)

    def test_as_many_dealings_as_can_be(self):
        one, other = listed(TABLE_2000.rows)[0], listed(TABLE_2000.rows)[-1]
        self.assertEqual(exchanged(TABLE_2000, one, steps_between(TABLE_2000, one, other)), other)
        self.assertEqual(sum(len(island) for island in islands(TABLE_2000)), 2000)
        self.assert_flag(len(islands(TABLE_2000)) == 1, is_carried(TABLE_2000))
        alike = {lot: (1, 2000) for lot in listed(TABLE_2000.rows)}
        self.assertEqual(stirred(TABLE_2000, alike), alike)
        one, other = listed(TABLE_2001.rows)[0], listed(TABLE_2001.rows)[-1]
        self.assert_raises("TooMany", {"most": 2000}, steps_between, TABLE_2001, one, other)
        self.assert_raises("TooMany", {"most": 2000}, steps_between, TABLE_2001, one, one)
        alike = {lot: (1, 2001) for lot in listed(TABLE_2001.rows)}
        self.assert_raises("TooMany", {"most": 2000}, stirred, TABLE_2001, alike)
        for table in (TABLE_2001, full(7), TABLE_5000, great_table()):
            for function in (islands, is_carried, parted):
                self.assert_raises("TooMany", {"most": 2000}, function, table)
            self.assertEqual(exchanges(table, dealing(table)), plain_may(table, dealing(table)))

    def test_stuck(self):
        for table in (STUCK, Table(((),)), beside(STUCK, full(9))):
            for function in (islands, is_carried, parted):
                self.assert_raises("Stuck", {}, function, table)

    def test_more_than_twelve_people(self):
        table = beside(shuffled(beside(W, ring(3))), beside(ring(12), names(4)))
        found = islands(table)
        self.assertEqual(len(found), 2 * 2 * len(islands(names(4))))
        self.assertEqual(sum(len(island) for island in found), 4 * 2 * 2 * 9)
        one, other = parted(table)
        self.assertIs(steps_between(table, one, other), None)
        last = found[0][-1]
        self.assertEqual(exchanged(table, found[0][0], steps_between(table, found[0][0], last)), last)
        self.assertEqual(len(islands(turned(table))), len(found))

    def test_lists_are_new(self):
        self.assert_new(exchanges, W, (1, 0, 2))
        self.assert_new(steps_between, W, (1, 0, 2), (2, 1, 0))
        self.assert_new(islands, W)
        self.assert_new(islands, ring(4))


def plain_may(table, lot):
    return [(one, other) for one in range(table.size) for other in range(one + 1, table.size)
            if lot[one] in table.rows[other] and lot[other] in table.rows[one]]


class StirredTest(PlainTest):

    def test_stirred(self):
        chance_of = random.Random(6)
        for table in with_dealing(small_tables()):
            if len(listed(table.rows)) > 100:
                continue
            shares = some_chances(table, chance_of)
            before = told(shares)
            passed = copy.deepcopy(before)
            found = stirred(table, passed)
            self.assertEqual(found, told(plain_stirred(table.rows, shares)), table.rows)
            self.assertEqual(passed, before)
            alike = {lot: (1, len(shares)) for lot in shares}
            self.assertEqual(stirred(table, alike), alike)
            again = stirred(table, found)
            self.assertEqual(again, told(plain_stirred(table.rows, plain_stirred(table.rows, shares))))

    def test_examples(self):
        self.assertEqual(stirred(full(1), {(0,): (1, 1)}), {(0,): (1, 1)})
        self.assertEqual(stirred(full(2), {(0, 1): (1, 1), (1, 0): (0, 1)}), {(0, 1): (0, 1), (1, 0): (1, 1)})
        self.assertEqual(stirred(ring(3), {(0, 1, 2): (1, 3), (1, 2, 0): (2, 3)}), {(0, 1, 2): (1, 3), (1, 2, 0): (2, 3)})
        self.assertEqual(
            stirred(W, {(1, 0, 2): (1, 1), (1, 2, 0): (0, 1), (2, 0, 1): (0, 1), (2, 1, 0): (0, 1)}),
            {(1, 0, 2): (1, 3), (1, 2, 0): (1, 3), (2, 0, 1): (1, 3), (2, 1, 0): (0, 1)})

    def test_what_was_returned_may_be_passed_on(self):
        shares = {lot: (0, 1) for lot in listed(W.rows)}
        shares[(1, 0, 2)] = (1, 1)
        for _ in range(200):
            shares = stirred(W, shares)
        self.assertGreater(shares[(1, 0, 2)][1], 10 ** 60)
        self.assertEqual(sum(fractions.Fraction(*share) for share in shares.values()), 1)

    def test_no_chances(self):
        right = {(1, 0, 2): (1, 2), (1, 2, 0): (1, 6), (2, 0, 1): (1, 3), (2, 1, 0): (0, 1)}
        self.assertEqual(len(stirred(W, right)), 4)
        less = {lot: share for lot, share in right.items() if lot != (2, 1, 0)}
        wrong = [
            less, {**right, (0, 1, 2): (0, 1)}, {**less, (0, 1, 2): (0, 1)}, {**right, (): (0, 1)}, {**right, None: (0, 1)},
            {**less, "210": (0, 1)}, {**less, (2, 1): (0, 1)}, {**less, (2, 1, None): (0, 1)}, {**less, (2, 1, 0, 0): (0, 1)},
            {**right, (2, 1, 0): (1, 10 ** 50)}, {**right, (1, 0, 2): (0, 1)}, {**right, (2, 1, 0): (1, 1)},
            {**right, (2, 1, 0): (-1, 6), (1, 2, 0): (1, 3)}, {**right, (1, 0, 2): (2, 4)}, {**right, (2, 1, 0): (0, 2)},
            {**right, (1, 0, 2): (-1, -2)}, {**right, (2, 1, 0): (0, -1)}, {**right, (2, 1, 0): (0, 0)},
            {lot: (0, 1) for lot in right}, {lot: (1, 1) for lot in right}, {}, list(right), list(right.items()), (right,), [right],
            {1: right}, tuple(right.items()), {**right, (1, 0, 2): (1, 2, 1)},
        ]
        wrong += [{**less, (2, 1, 0): share} for share in odd_numbers() + odd_tuples((0, 1)) + [0, (0,), [0, 1], (False, 1), (0, True)]]
        for thing in wrong + odd_numbers() + odd_tuples((0, 1)):
            self.assert_raises("NoChances", {}, stirred, W, thing)
        for table in (STUCK, full(12), great_table()):
            for thing in (right, {}, None, [], {tuple(range(12)): (1, 1)}):
                self.assert_raises("NoChances", {}, stirred, table, thing)

    def test_dicts_are_new(self):
        self.assert_new(stirred, W, {(1, 0, 2): (1, 2), (1, 2, 0): (1, 6), (2, 0, 1): (1, 3), (2, 1, 0): (0, 1)})
        only = {(0,): (1, 1)}
        self.assertIsNot(stirred(full(1), only), only)
        self.assertEqual(many_dealings(with_tie(ring(3), 0, 2)), 3)


if __name__ == "__main__":
    unittest.main()
