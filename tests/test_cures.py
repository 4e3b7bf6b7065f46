"""Promise 12.1: cures."""

import copy
import functools
import itertools
import random
import unittest

from fullorring.cures import cheapest_cure, cures, fewest_cure, is_cure, wish_cure
from fullorring.even import always_even
from fullorring.tables import Table, beside, full, kept, names, ring, ties, with_tie, without_tie
from plain import (
    STUCK, W, PlainTest, all_tables, great_table, listed, odd_customs, odd_numbers, odd_tuples, plain_chances, some_tables,
    straight, subsets, turns, with_dealing,
)

TWO = ("ahead", "anew")
N4 = names(4)
# 20 and 21 ties.
TIES_20 = names(5)
TIES_21 = with_tie(TIES_20, 2, 2)


def without(rows, lot):
    return tuple(tuple(thing for thing in row if (person, thing) not in lot) for person, row in enumerate(rows))


@functools.lru_cache(maxsize=None)
def is_plain_even(rows, custom):
    """Whether there is a dealing, and all are alike likely in every turn."""
    return len(listed(rows)) > 0 and all(
        len(set(straight(rows, turn, custom).values())) == 1 for turn in turns(len(rows)))


@functools.lru_cache(maxsize=None)
def plain_cures(rows, custom):
    """All cures, whatever their ties."""
    return [lot for lot in subsets(ties(Table(rows))) if is_plain_even(without(rows, lot), custom)]


@functools.lru_cache(maxsize=None)
def cured():
    """Tables of few ties."""
    found = all_tables(1) + all_tables(2) + all_tables(3)[::11] + [one for one in some_tables(4, 90) if len(ties(one)) <= 10]
    found += [W, ring(3), ring(4), with_tie(ring(3), 0, 2), beside(full(2), full(2)), names(3)]
    return with_dealing(found)


class FewestTest(PlainTest):

    def test_is_cure(self):
        for table in cured():
            for custom in TWO:
                right = set(plain_cures(table.rows, custom))
                for lot in subsets(ties(table))[::2]:
                    self.assert_flag(lot in right, is_cure(table, custom, lot), table.rows, custom, lot)

    def test_fewest_and_all_of_them(self):
        for table in cured():
            for custom in TWO:
                every = plain_cures(table.rows, custom)
                fewest = min(len(lot) for lot in every)
                self.assertEqual(fewest_cure(table, custom), fewest, table.rows)
                self.assertEqual(cures(table, custom), [lot for lot in sorted(every) if len(lot) == fewest], table.rows)

    def test_all_but_one_dealing_is_a_cure(self):
        for table in cured():
            for lot in listed(table.rows):
                rest = tuple(tie for tie in ties(table) if lot[tie[0]] != tie[1])
                for custom in TWO:
                    self.assert_flag(True, is_cure(table, custom, rest))

    def test_examples(self):
        self.assertEqual(fewest_cure(N4, "ahead"), 2)
        self.assertEqual(cures(N4, "ahead")[0], ((0, 1), (1, 0)))
        for table in (full(1), full(4), beside(full(2), full(3))):
            for custom in TWO:
                self.assertEqual(fewest_cure(table, custom), 0)
                self.assertEqual(cures(table, custom), [()])
                self.assert_flag(True, is_cure(table, custom, ()))
        self.assertEqual(cures(ring(10), "ahead"), [()])
        self.assertEqual(cures(ring(10), "anew"), [((person, thing),) for person, thing in ties(ring(10))])
        self.assert_flag(True, is_cure(ring(3), "ahead", ()))
        self.assert_flag(False, is_cure(ring(3), "anew", ()))

    def test_found_cures_are_cures(self):
        for table in (TIES_20, some_tables(6, 8)[1], ring(10), beside(ring(5), ring(5)), beside(W, beside(W, ring(2)))):
            for custom in TWO:
                if len(ties(table)) > 20 or not listed(table.rows):
                    continue
                found = cures(table, custom)
                self.assertEqual(found, sorted(set(found)))
                for lot in found[::5]:
                    self.assert_flag(True, is_cure(table, custom, lot))
                    cut = table
                    for tie in lot:
                        cut = without_tie(cut, *tie)
                    self.assert_flag(True, always_even(cut, custom))
                    for tie in lot:
                        less = tuple(one for one in lot if one != tie)
                        self.assert_flag(False, is_cure(table, custom, less))

    def test_each_of_them_once(self):
        """Tables in which more than one way of striking leads to the same cure."""
        for rows, custom, fewest, many in [
            (((0, 3, 4), (0, 1, 2, 4), (2, 4), (2, 3), (1, 3, 4)), "anew", 2, 19),
            (((0, 2, 5), (1,), (0, 2, 3), (2, 3, 4, 5), (0, 3, 4, 5), (3, 5)), "anew", 3, 40),
            (((0, 3), (1, 5, 6), (0, 1, 2), (2, 3, 5, 6), (4, 5), (2, 5), (2, 6)), "anew", 2, 22),
        ]:
            table = Table(rows)
            found = cures(table, custom)
            self.assertEqual((fewest_cure(table, custom), len(found)), (fewest, many))
            right = [lot for lot in itertools.combinations(ties(table), fewest) if is_cure(table, custom, lot)]
            self.assertEqual(found, right)

    def test_twenty_ties_and_twenty_one(self):
        self.assertEqual(len(ties(TIES_20)), 20)
        self.assertEqual(fewest_cure(TIES_20, "ahead"), 5)
        self.assertEqual(fewest_cure(TIES_20, "anew"), 6)
        self.assertEqual(len(cures(TIES_20, "ahead")), 180)
        self.assert_flag(False, is_cure(TIES_20, "ahead", ()))
        self.assertEqual(cheapest_cure(TIES_20, "ahead", dict.fromkeys(ties(TIES_20), 1000))[0], 5000)
        for table in (TIES_21, full(5), full(12), great_table()):
            for custom in TWO:
                self.assert_raises("TooMany", {"most": 20}, fewest_cure, table, custom)
                self.assert_raises("TooMany", {"most": 20}, cures, table, custom)
                self.assert_raises("TooMany", {"most": 20}, wish_cure, table, custom, 0, 1)
                self.assert_raises("TooMany", {"most": 20}, cheapest_cure, table, custom, dict.fromkeys(ties(table), 1))
                for thing in ((), None, ((0, 1),)):
                    self.assert_raises("TooMany", {"most": 20}, is_cure, table, custom, thing)

    def test_more_than_twelve_people(self):
        table = beside(ring(3), full(2))
        for _ in range(8):
            table = beside(table, full(1))
        table = with_tie(table, 3, 12)
        self.assertEqual((table.size, len(ties(table))), (13, 19))
        self.assertEqual(cures(table, "ahead"), [()])
        # The ring must lose a tie, and all is fine: the new one is of all things of a piece.
        self.assertEqual(cures(table, "anew"), [(tie,) for tie in ties(ring(3))])
        for tie in ties(table):
            self.assert_flag(tie in ties(ring(3)), is_cure(table, "anew", (tie,)))
        self.assertEqual(wish_cure(table, "anew", 0, 1), ((0, 0),))
        self.assertEqual(wish_cure(table, "ahead", 3, 12), None)

    def test_stuck(self):
        for table in (STUCK, Table(((),)), beside(STUCK, full(5)), kept(N4, (0, 1), (0, 1))):
            for custom in TWO:
                if listed(table.rows):
                    continue
                self.assert_raises("Stuck", {}, fewest_cure, table, custom)
                self.assert_raises("Stuck", {}, cures, table, custom)
                self.assert_raises("Stuck", {}, wish_cure, table, custom, 0, 0)
                self.assert_raises("Stuck", {}, cheapest_cure, table, custom, dict.fromkeys(ties(table), 1))
                for thing in ((), None, ((0, 0),)):
                    self.assert_raises("Stuck", {}, is_cure, table, custom, thing)


class PricesTest(PlainTest):

    def test_cheapest_cure(self):
        chance_of = random.Random(9)
        for table in cured():
            for custom in TWO:
                every = plain_cures(table.rows, custom)
                for prices in [(0,), (0, 1), (0, 0, 0, 1, 7), (1, 2, 3), (0, 1000), (3,), (10, 11, 12, 999, 1000)]:
                    passed = {tie: chance_of.choice(prices) for tie in ties(table)}
                    best = min((sum(passed[tie] for tie in lot), lot) for lot in every)
                    self.assertEqual(cheapest_cure(table, custom, passed), best, (table.rows, custom, passed))

    def test_what_costs_nothing_makes_a_lot_less(self):
        # To strike (0, 0), too, costs nothing, and makes the lot begin with something less.
        table = with_tie(beside(ring(1), beside(full(1), ring(3))), 0, 1)
        prices = {tie: 1 for tie in ties(table)}
        prices[(0, 1)] = 0
        self.assertEqual(cheapest_cure(table, "ahead", prices), (0, ()))
        self.assertEqual(cheapest_cure(table, "anew", prices), (1, ((0, 1), (2, 2))))
        prices[(0, 1)] = 1
        self.assertEqual(cheapest_cure(table, "anew", prices), (1, ((2, 2),)))

    def test_prices_stay(self):
        prices = dict.fromkeys(ties(W), 2)
        before = copy.deepcopy(prices)
        cheapest_cure(W, "ahead", prices)
        self.assertEqual(prices, before)

    def test_no_prices(self):
        right = dict.fromkeys(ties(W), 1)
        self.assertEqual(cheapest_cure(W, "ahead", {**right, (0, 1): 1000, (0, 2): 0})[0].__class__, int)
        wrong = [{}, list(right.items()), tuple(right), [right], (right,), {**right, (0, 0): 1}, {**right, (): 1}, {**right, None: 0},
                 {**right, "01": 1}, {**right, (3, 0): 1}, {**right, (0, 1, 2): 1}]
        for tie in right:
            less = {one: price for one, price in right.items() if one != tie}
            wrong += [less, {**less, tie[::-1] + (0,): 1}, {**less, (9, 9): 1}, {**less, str(tie): 1}]
            wrong += [{**less, tie: price} for price in (1001, -1, True, False, None, "1", (1, 1), [1], {}, 10 ** 59, b"1")]
        for thing in wrong + odd_numbers() + odd_tuples((0, 1)):
            for custom in TWO:
                self.assert_raises("NoPrices", {}, cheapest_cure, W, custom, thing)
        for thing in ({}, None, dict.fromkeys(ties(W), 1)):
            for table in (STUCK, full(5), great_table()):
                self.assert_raises("NoPrices", {}, cheapest_cure, table, "ahead", thing)


class WishTest(PlainTest):

    def test_wish_cure(self):
        for table in cured():
            for custom in TWO:
                every = sorted(plain_cures(table.rows, custom), key=lambda lot: (len(lot), lot))
                for person in range(table.size):
                    for thing in range(table.size):
                        right = next((lot for lot in every if any(
                            one[person] == thing for one in listed(without(table.rows, lot)))), None)
                        self.assertEqual(wish_cure(table, custom, person, thing), right, (table.rows, custom, person, thing))

    def test_examples(self):
        self.assertEqual(wish_cure(full(3), "anew", 2, 0), ())
        self.assertEqual(wish_cure(N4, "ahead", 0, 0), None)
        self.assertEqual(wish_cure(with_tie(full(1), 0, 0), "ahead", 0, 0), ())
        idle = Table(((0,), (0, 1)))
        self.assertEqual(wish_cure(idle, "ahead", 1, 0), None)
        self.assertEqual(wish_cure(idle, "ahead", 1, 1), ())
        self.assertIs(wish_cure(W, "ahead", 0, 0), None)


class WrongThingsTest(PlainTest):

    def test_no_custom(self):
        for custom in odd_customs() + ["near", "strict"]:
            for table in (W, STUCK, TIES_21):
                for thing in ((), None, ((0, 1),)):
                    self.assert_raises("NoCustom", {}, is_cure, table, custom, thing)
                self.assert_raises("NoCustom", {}, fewest_cure, table, custom)
                self.assert_raises("NoCustom", {}, cures, table, custom)
                for prices in (None, dict.fromkeys(ties(table), 1)):
                    self.assert_raises("NoCustom", {}, cheapest_cure, table, custom, prices)
                for person in (0, None):
                    self.assert_raises("NoCustom", {}, wish_cure, table, custom, person, 9)

    def test_no_person_and_no_thing(self):
        for one in odd_numbers() + [3, 12, (0,), [1]]:
            for table in (W, STUCK, beside(STUCK, full(5))):
                if table.size > 3 and isinstance(one, int):
                    continue
                self.assert_raises("NoPerson", {}, wish_cure, table, "ahead", one, 0)
                self.assert_raises("NoPerson", {}, wish_cure, table, "anew", one, one)
                self.assert_raises("NoThing", {}, wish_cure, table, "ahead", 0, one)

    def test_what_is_no_cure(self):
        right = ((0, 1), (1, 0))
        self.assert_flag(True, is_cure(N4, "ahead", right))
        wrong = [
            right[::-1], right + ((1, 0),), ((0, 1), (0, 1), (1, 0)), list(right), [(0, 1)], ((0, 1), [1, 0]), right[:1], right[1:],
            ((0, 0),) + right, right + ((1, 1),), right + ((4, 0),), right + ((1, 4),), ((-1, 0),) + right, (0, 1), ((0, 1, 2), (1, 0)),
            ((0, 1), (1,)), ((0, 1), (True, 0)), ((False, 1), (1, 0)), ((0, 1), (1, None)), ((0, 1), None), {right: 1},
            {(0, 1): 1, (1, 0): 1}, "ahead", tuple(ties(N4)), ((0, 1), "10"), ((0, 1), full(3)), right * 5000,
        ]
        for thing in wrong + odd_numbers() + odd_tuples(right):
            if thing != ():
                self.assert_flag(False, is_cure(N4, "ahead", thing), thing)
            self.assert_flag(False, is_cure(N4, "anew", thing), thing)

    def test_lists_are_new(self):
        self.assert_new(cures, W, "ahead")
        self.assert_new(cures, full(2), "anew")
        self.assertEqual(sum(plain_chances(W.rows, (0, 1, 2), "ahead").values()), 1)


if __name__ == "__main__":
    unittest.main()
