"""Promises 6.1, 6.2: chances by the four customs."""

import collections
import copy
import fractions
import math
import unittest

from fullorring.chances import chance, leaning, likeliest, spread, thing_chance, through, unlikeliest
from fullorring.numbers import many_dealings
from fullorring.tables import Table, beside, full, names, ring, with_tie
from plain import (
    CUSTOMS, STUCK, TABLE_5000, TABLE_5001, W, PlainTest, all_tables, great_table, listed, odd_customs, odd_numbers,
    odd_tuples, odd_turns, pair, plain_chances, shuffled, some_tables, straight, turns, with_dealing,
)

WALKS = (through, likeliest, unlikeliest, leaning, spread)
# Person 1 may get an idle tie, which counts among what is left.
IDLE = Table(((0,), (0, 1, 2), (1, 2)))


def drawn():
    """Tables with some or all of their turns."""
    found = [(table, turn) for size in (1, 2) for table in all_tables(size) for turn in turns(size)]
    found += [(table, turn) for table in all_tables(3)[::3] for turn in turns(3)]
    found += [(table, turn) for at, table in enumerate(some_tables(4, 60)) for turn in turns(4)[at % 5::5]]
    found += [(table, turn) for at, table in enumerate(some_tables(5, 24)) for turn in turns(5)[at % 40::40]]
    found += [(table, turn) for table in (W, IDLE, full(4), names(4), ring(4), beside(names(2), ring(3)))
              for turn in turns(table.size)[::3]]
    return [(table, turn) for table, turn in found if listed(table.rows)]


class ChancesTest(PlainTest):

    def test_chance(self):
        for table, turn in drawn():
            for custom in CUSTOMS:
                known = plain_chances(table.rows, turn, custom)
                self.assertEqual(sorted(known), list(listed(table.rows)))
                total = fractions.Fraction(0)
                for lot, share in known.items():
                    told = chance(table, turn, custom, lot)
                    self.assertEqual(told, pair(share), (table.rows, turn, custom, lot))
                    total += fractions.Fraction(*told)
                self.assertEqual(total, 1)

    def test_through(self):
        for table, turn in drawn():
            for custom in CUSTOMS:
                share = sum(straight(table.rows, turn, custom).values())
                self.assertEqual(through(table, turn, custom), pair(share), (table.rows, turn, custom))
            self.assertEqual(through(table, turn, "ahead"), (1, 1))

    def test_likeliest_and_unlikeliest(self):
        for table, turn in drawn():
            for custom in CUSTOMS:
                known = plain_chances(table.rows, turn, custom)
                most, least = max(known.values()), min(known.values())
                lot = min(one for one, share in known.items() if share == most)
                self.assertEqual(likeliest(table, turn, custom), (pair(most), lot), (table.rows, turn, custom))
                lot = min(one for one, share in known.items() if share == least)
                self.assertEqual(unlikeliest(table, turn, custom), (pair(least), lot), (table.rows, turn, custom))
                self.assertEqual(leaning(table, turn, custom), pair(most / least))

    def test_spread(self):
        for table, turn in drawn():
            for custom in CUSTOMS:
                many = collections.Counter(plain_chances(table.rows, turn, custom).values())
                self.assertEqual(spread(table, turn, custom), [(pair(share), many[share]) for share in sorted(many)])

    def test_thing_chance(self):
        for table, turn in drawn()[::3]:
            for custom in CUSTOMS:
                known = plain_chances(table.rows, turn, custom)
                for person in range(table.size):
                    for thing in range(table.size):
                        share = sum([one for lot, one in known.items() if lot[person] == thing], fractions.Fraction(0))
                        told = thing_chance(table, turn, custom, person, thing)
                        self.assertEqual(told, pair(share), (table.rows, turn, custom, person, thing))


class EdgesTest(PlainTest):

    def test_examples(self):
        self.assertEqual(chance(W, (0, 1, 2), "ahead", (1, 0, 2)), (1, 4))
        self.assertEqual(chance(W, (1, 0, 2), "ahead", (1, 0, 2)), (1, 6))

    def test_idle_ties_count_among_what_is_left(self):
        self.assertEqual(through(IDLE, (1, 0, 2), "ahead"), (1, 1))
        self.assertEqual(through(IDLE, (1, 0, 2), "near"), (1, 1))
        self.assertEqual(through(IDLE, (1, 0, 2), "anew"), (2, 3))
        self.assertEqual(through(IDLE, (1, 0, 2), "strict"), (1, 3))
        self.assertEqual(through(IDLE, (2, 1, 0), "near"), (1, 1))
        self.assertEqual(through(IDLE, (2, 1, 0), "anew"), (1, 2))

    def test_one_person_alone(self):
        for custom in CUSTOMS:
            self.assertEqual(chance(full(1), (0,), custom, (0,)), (1, 1))
            self.assertEqual(through(full(1), (0,), custom), (1, 1))
            self.assertEqual(likeliest(full(1), (0,), custom), ((1, 1), (0,)))
            self.assertEqual(unlikeliest(full(1), (0,), custom), ((1, 1), (0,)))
            self.assertEqual(leaning(full(1), (0,), custom), (1, 1))
            self.assertEqual(spread(full(1), (0,), custom), [((1, 1), 1)])
            self.assertEqual(thing_chance(full(1), (0,), custom, 0, 0), (1, 1))

    def test_by_strict_all_are_alike(self):
        turn = tuple(range(8))[::-1]
        for table in [with_dealing(some_tables(8, 12))[-1], full(8), names(8), ring(8)]:
            many = many_dealings(table)
            self.assertEqual(through(table, turn, "strict"), pair(fractions.Fraction(many, math.factorial(8))))
            self.assertEqual(likeliest(table, turn, "strict"), unlikeliest(table, turn, "strict"))
            self.assertEqual(leaning(table, turn, "strict"), (1, 1))
        self.assertEqual(spread(ring(8), turn, "strict"), [((1, 2), 2)])

    def test_spread_of_many(self):
        turn = tuple(range(9))
        for custom in CUSTOMS:
            found = spread(TABLE_5000, turn, custom)
            self.assertEqual(sum(many for _, many in found), 5000)
            self.assertEqual(sum(fractions.Fraction(*share) * many for share, many in found), 1)
            self.assertEqual(sorted(found, key=lambda one: fractions.Fraction(*one[0])), found)
            self.assertEqual((found[0][0], found[-1][0]), (
                unlikeliest(TABLE_5000, turn, custom)[0], likeliest(TABLE_5000, turn, custom)[0],
            ))
            self.assert_raises("TooMany", {"most": 5000}, spread, TABLE_5001, turn, custom)
            self.assert_raises("TooMany", {"most": 5000}, spread, full(7), tuple(range(7)), custom)
            self.assertEqual(likeliest(TABLE_5001, turn, custom)[0], chance(
                TABLE_5001, turn, custom, likeliest(TABLE_5001, turn, custom)[1],
            ))
        self.assertEqual(spread(full(6), (5, 4, 3, 2, 1, 0), "anew"), [((1, 720), 720)])


class GreatTablesTest(PlainTest):

    def test_apart_they_multiply(self):
        """Tables beside one another, drawn in a mixed turn."""
        one, other = W, names(4)
        both = beside(beside(one, other), full(12))
        turn = tuple([18, 1, 4, 0, 6, 17, 2, 3, 5, *range(7, 17)])
        lot = (1, 0, 2) + tuple(3 + thing for thing in (2, 3, 0, 1)) + tuple(range(7, 19))
        for custom in ("ahead", "near", "anew"):
            share = fractions.Fraction(*chance(one, (1, 0, 2), custom, (1, 0, 2)))
            share *= fractions.Fraction(*chance(other, (1, 3, 0, 2), custom, (2, 3, 0, 1)))
            self.assertEqual(chance(both, turn, custom, lot), pair(share / math.factorial(12)), custom)
            share = fractions.Fraction(*through(one, (1, 0, 2), custom))
            share *= fractions.Fraction(*through(other, (1, 3, 0, 2), custom))
            self.assertEqual(through(both, turn, custom), pair(share), custom)
            first = likeliest(one, (1, 0, 2), custom)[1]
            second = tuple(3 + thing for thing in likeliest(other, (1, 3, 0, 2), custom)[1])
            self.assertEqual(likeliest(both, turn, custom)[1], first + second + tuple(range(7, 19)))
            self.assertEqual(thing_chance(both, turn, custom, 1, 0), thing_chance(one, (1, 0, 2), custom, 1, 0))
            self.assertEqual(thing_chance(both, turn, custom, 3, 1), (0, 1))
        self.assertEqual(chance(both, turn, "strict", lot), (1, 4 * 9 * math.factorial(12)))
        self.assertEqual(thing_chance(both, turn, "strict", 18, 18), (1, 12))
        self.assertEqual(leaning(both, turn, "strict"), (1, 1))

    def test_many_people(self):
        table = shuffled(with_tie(beside(beside(full(12), names(7)), beside(ring(12), full(4))), 0, 34))
        turn = tuple(range(35))[::-1]
        for custom in CUSTOMS:
            share, lot = likeliest(table, turn, custom)
            self.assertEqual(chance(table, turn, custom, lot), share)
            less, lot = unlikeliest(table, turn, custom)
            self.assertEqual(chance(table, turn, custom, lot), less)
            self.assertEqual(leaning(table, turn, custom), pair(fractions.Fraction(*share) / fractions.Fraction(*less)))
            self.assertEqual(through(table, turn, custom) == (1, 1), custom in ("ahead",))
            self.assert_raises("TooMany", {"most": 5000}, spread, table, turn, custom)
        self.assertEqual(through(great_table(), tuple(range(40)), "ahead"), (1, 1))
        pairs = beside(beside(ring(12), ring(12)), with_tie(ring(12), 0, 6))
        self.assertEqual(sum(many for _, many in spread(pairs, tuple(range(36)), "anew")), 12)


class WrongThingsTest(PlainTest):

    def test_no_turn(self):
        for turn in odd_turns(3):
            for table in (W, STUCK):
                for custom in ("ahead", "all", None):
                    self.assert_raises("NoTurn", {}, chance, table, turn, custom, (1, 0, 2))
                    self.assert_raises("NoTurn", {}, chance, table, turn, custom, None)
                    self.assert_raises("NoTurn", {}, thing_chance, table, turn, custom, 0, 0)
                    self.assert_raises("NoTurn", {}, thing_chance, table, turn, custom, None, 7)
                    for function in WALKS:
                        self.assert_raises("NoTurn", {}, function, table, turn, custom)
        self.assert_raises("NoTurn", {}, spread, full(7), (0, 1, 2), "ahead")

    def test_no_custom(self):
        for custom in odd_customs():
            for table in (W, STUCK):
                self.assert_raises("NoCustom", {}, chance, table, (0, 1, 2), custom, (1, 0, 2))
                self.assert_raises("NoCustom", {}, chance, table, (0, 1, 2), custom, None)
                self.assert_raises("NoCustom", {}, thing_chance, table, (0, 1, 2), custom, None, 7)
                for function in WALKS:
                    self.assert_raises("NoCustom", {}, function, table, (0, 1, 2), custom)
        self.assert_raises("NoCustom", {}, spread, full(7), tuple(range(7)), "none")

    def test_no_dealing(self):
        for custom in CUSTOMS:
            for lot in odd_tuples((1, 0, 2)) + [(0, 1, 2), (1, 0, 0), (1, 0, 3), (1, 0), (1, 0, 2, 3), (1, None, 2)]:
                self.assert_raises("NoDealing", {}, chance, W, (0, 1, 2), custom, lot)
            self.assert_raises("NoDealing", {}, chance, STUCK, (0, 1, 2), custom, (0, 0, 1))

    def test_no_person_and_no_thing(self):
        for custom in CUSTOMS:
            for thing in odd_numbers() + [3]:
                for table in (W, STUCK):
                    self.assert_raises("NoPerson", {}, thing_chance, table, (0, 1, 2), custom, thing, 0)
                    self.assert_raises("NoPerson", {}, thing_chance, table, (0, 1, 2), custom, thing, thing)
                    self.assert_raises("NoThing", {}, thing_chance, table, (0, 1, 2), custom, 0, thing)

    def test_stuck(self):
        for custom in CUSTOMS:
            for table in (STUCK, Table(((), (0, 1, 2), (0, 1, 2)))):
                self.assert_raises("Stuck", {}, thing_chance, table, (0, 1, 2), custom, 1, 2)
                for function in WALKS:
                    self.assert_raises("Stuck", {}, function, table, (0, 1, 2), custom)
            self.assert_raises("Stuck", {}, through, names(1), (0,), custom)
            self.assert_raises("Stuck", {}, spread, beside(full(9), STUCK), tuple(range(12)), custom)

    def test_answers_are_new(self):
        for custom in CUSTOMS:
            self.assert_new(spread, W, (1, 0, 2), custom)
            arguments = (W, (1, 0, 2), custom)
            before = copy.deepcopy(arguments)
            for function in WALKS:
                self.assertEqual(function(*arguments), function(*arguments))
            self.assertEqual(arguments, before)


if __name__ == "__main__":
    unittest.main()
