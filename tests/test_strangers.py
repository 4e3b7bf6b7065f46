"""Promise 17.1: strangers' drawers, and the sides of an even one."""

import collections
import fractions
import itertools
import random
import unittest

from fullorring.errors import DrawError, NoPerson
from fullorring.even import is_even
from fullorring.live import Draw
from fullorring.standings import open_things
from fullorring.strangers import drawer_chances, drawer_even, even_sides
from fullorring.tables import Table, beside, full, names, ring
from plain import (
    STUCK, W, PlainTest, all_tables, great_table, listed, odd_numbers, odd_turns, pair, plain_chances, shuffled, some_tables, turns,
    with_dealing,
)

TURN = (1, 0, 2)


def plain_drawn(rows, turn, sides, pick):
    """All throws: the dict from what comes to its chance."""
    found = {}
    for throws in itertools.product(range(sides), repeat=len(rows)):
        standing = (None,) * len(rows)
        for person, throw in zip(turn, throws):
            thing = pick(standing, person, throw)
            if thing.__class__ is not int or thing in standing or thing not in rows[person]:
                standing = "stuck"
                break
            standing = standing[:person] + (thing,) + standing[person + 1:]
        found[standing] = found.get(standing, 0) + fractions.Fraction(1, sides ** len(rows))
    return found


def fair(table, sides):
    """A drawer that picks each open thing by its part of the dealings, as near as it can."""
    def pick(standing, person, throw):
        lots = [lot for lot in listed(table.rows) if all(own in (None, lot[who]) for who, own in enumerate(standing))]
        return sorted(lots, key=lambda lot: lot[person])[throw * len(lots) // sides][person]
    return pick


def careless(table, seed, stuck=True):
    """A drawer that gives whatever it gives, the same for equal arguments."""
    wrong = [None, "stuck", True, False, -1, table.size, [0], (0,), 10 ** 59, (), {}, W, len] if stuck else []

    def pick(standing, person, throw):
        chance_of = random.Random(f"{seed} {standing} {person} {throw}")
        left = [thing for thing in table.rows[person] if thing not in standing]
        return chance_of.choice(left * 5 + wrong + list(range(table.size)))
    return pick


def drawn():
    found = [(table, turn) for size in (1, 2) for table in all_tables(size) for turn in turns(size)]
    found += [(table, turn) for at, table in enumerate(all_tables(3)) for turn in turns(3)[at % 3::3]]
    found += [(table, turn) for at, table in enumerate(some_tables(4, 60)) for turn in turns(4)[at % 12::12]]
    return [(table, turn) for table, turn in found if listed(table.rows)]


class DrawerTest(PlainTest):

    def test_careless_drawers(self):
        chance_of = random.Random(1)
        for table, turn in drawn():
            sides = chance_of.choice((1, 2, 3) if table.size > 3 else (1, 2, 3, 4, 6))
            pick = careless(table, chance_of.random(), chance_of.random() < 0.7)
            found = plain_drawn(table.rows, turn, sides, pick)
            told = drawer_chances(table, turn, sides, pick)
            self.assertEqual(told, {lot: pair(share) for lot, share in found.items()}, (table.rows, turn, sides))
            right = sorted(found, key=str) == sorted(listed(table.rows), key=str) and len(set(found.values())) == 1
            self.assert_flag(right, drawer_even(table, turn, sides, pick))

    def test_fair_drawers(self):
        for table, turn in drawn():
            sides = even_sides(table, turn)
            for many in range(1, 13):
                even = drawer_even(table, turn, many, fair(table, many))
                self.assert_flag(many % sides == 0, even, table.rows, turn, many)
                if even:
                    self.assertEqual(drawer_chances(table, turn, many, fair(table, many)),
                                     {lot: (1, len(listed(table.rows))) for lot in listed(table.rows)})

    def test_one_who_looks_ahead(self):
        def pick(standing, person, throw):
            some = open_things(table, standing, person)
            return some[throw * len(some) // 12]

        for table, turn in drawn()[::3] + [(W, TURN), (W, (0, 1, 2)), (full(4), (3, 1, 0, 2)), (ring(5), (0, 2, 4, 1, 3))]:
            found = plain_chances(table.rows, turn, "ahead")
            self.assertEqual(drawer_chances(table, turn, 12, pick), {lot: pair(share) for lot, share in found.items()})
            self.assert_flag(is_even(table, turn, "ahead"), drawer_even(table, turn, 12, pick))

    def test_things_that_are_left_and_not_open(self):
        asked = []

        def pick(standing, person, throw):
            asked.append((standing, person, throw))
            return 0

        # The first one may get the thing 0, and then there is none left for the second one, who is asked all the same.
        self.assertEqual(drawer_chances(Table(((0, 1), (0,))), (0, 1), 1, pick), {"stuck": (1, 1)})
        self.assertEqual(asked, [((None, None), 0, 0), ((0, None), 1, 0)])
        self.assertEqual(drawer_chances(Table(((0,), (0, 1))), (1, 0), 2, lambda standing, person, throw: (0, throw)[person]),
                         {"stuck": (1, 2), (0, 1): (1, 2)})

    def test_asked_of_each_person_with_each_throw(self):
        for table, turn in [(full(1), (0,)), (W, TURN), (Table(((0,), (0, 1))), (1, 0)), (Table(((0,), (0, 1))), (0, 1))]:
            for sides in (1, 3, 12):
                asked = set()

                def pick(standing, person, throw):
                    asked.add((standing, person, throw))
                    self.assertIs(standing.__class__, tuple)
                    return open_things(table, standing, person)[0]

                told = drawer_chances(table, turn, sides, pick)
                self.assertEqual(list(told.values()), [(1, 1)])
                lot = list(told)[0]
                right = set()
                for at, person in enumerate(turn):
                    standing = tuple(lot[who] if who in turn[:at] else None for who in range(table.size))
                    right |= {(standing, person, throw) for throw in range(sides)}
                self.assertEqual(asked, right)

    def test_flags_are_no_things(self):
        self.assertEqual(drawer_chances(full(2), (0, 1), 2, lambda standing, person, throw: throw == 0), {"stuck": (1, 1)})
        for thing in odd_numbers():
            if thing.__class__ is not int:
                self.assertEqual(drawer_chances(W, TURN, 3, lambda standing, person, throw: thing), {"stuck": (1, 1)})
                self.assert_flag(False, drawer_even(W, TURN, 3, lambda standing, person, throw: thing))
        for number in (-1, 3, 10 ** 59):
            self.assertEqual(drawer_chances(W, TURN, 3, lambda standing, person, throw: number), {"stuck": (1, 1)})

    def test_errors_go_on(self):
        class Own(Exception):
            """Of the drawer's own."""

        for error in (Own(), ValueError("x"), NoPerson(), KeyError(1), KeyboardInterrupt(), StopIteration(1), IndexError()):
            def pick(standing, person, throw):
                if person == 2 and throw == 1:
                    raise error
                return open_things(W, standing, person)[0]

            for function in (drawer_chances, drawer_even):
                with self.assertRaises(error.__class__) as caught:
                    function(W, TURN, 2, pick)
                self.assertIs(caught.exception, error)
                function(W, TURN, 1, pick)

    def test_bounds(self):
        for sides in (1, 12):
            self.assertEqual(sum(fractions.Fraction(*share) for share in drawer_chances(W, TURN, sides, careless(W, 5)).values()), 1)
        self.assert_flag(True, drawer_even(full(1), (0,), 1, lambda standing, person, throw: 0))
        found = drawer_chances(full(6), (5, 4, 3, 2, 1, 0), 12, careless(full(6), 1, False))
        self.assertEqual(sum(fractions.Fraction(*share) for share in found.values()), 1)
        self.assertTrue(set(found) <= set(listed(full(6).rows)) | {"stuck"})
        for table in (full(7), names(12), great_table(), beside(W, ring(4))):
            for function in (drawer_chances, drawer_even):
                self.assert_raises("TooMany", {"most": 6}, function, table, tuple(range(table.size)), 2, failing)
            self.assert_raises("TooMany", {"most": 6}, even_sides, table, tuple(range(table.size)))

    def test_dicts_are_new(self):
        self.assert_new(drawer_chances, W, TURN, 2, first_open)
        self.assert_new(drawer_chances, full(1), (0,), 1, first_open)


def first_open(standing, person, throw):
    """Fit for W and for a person alone."""
    return open_things(W if len(standing) == 3 else full(1), standing, person)[0]


def failing(standing, person, throw):
    raise AssertionError("asked")


class SidesTest(PlainTest):

    def plain_sides(self, table, turn):
        """The least number of sides that gives each open thing its part, at all standings that can be come to."""
        bottoms = set()
        for at, person in enumerate(turn):
            behind = collections.defaultdict(list)
            for lot in listed(table.rows):
                behind[tuple(lot[who] for who in turn[:at])].append(lot[person])
            bottoms |= {fractions.Fraction(things.count(thing), len(things)).denominator
                        for things in behind.values() for thing in things}
        found = [sides for sides in range(1, 5001) if all(sides % bottom == 0 for bottom in bottoms)]
        return found[0] if found else None

    def test_even_sides(self):
        for table, turn in drawn()[::2] + [(table, turns(5)[17]) for table in with_dealing(some_tables(5, 8))]:
            self.assertEqual(even_sides(table, turn), self.plain_sides(table, turn), (table.rows, turn))

    def test_examples(self):
        self.assertEqual(even_sides(full(1), (0,)), 1)
        self.assertEqual(even_sides(Table(((0,), (0, 1))), (1, 0)), 1)
        self.assertEqual(even_sides(full(6), (3, 1, 0, 2, 5, 4)), 60)
        self.assertEqual(even_sides(ring(6), (3, 1, 0, 2, 5, 4)), 2)
        self.assertEqual(even_sides(W, (0, 1, 2)), 2)
        self.assertEqual(even_sides(W, TURN), 4)
        self.assertEqual(even_sides(names(4), (0, 1, 2, 3)), self.plain_sides(names(4), (0, 1, 2, 3)))

    def test_none_up_to_five_thousand(self):
        found = []
        for table in with_dealing(some_tables(6, 60)) + [names(6), shuffled(names(6))]:
            for turn in ((0, 1, 2, 3, 4, 5), (5, 3, 1, 0, 2, 4)):
                sides = even_sides(table, turn)
                found.append(sides)
                if len(found) % 16 == 0:
                    self.assertEqual(sides, self.plain_sides(table, turn), (table.rows, turn))
        self.assertIn(None, found)
        self.assertLessEqual(max(sides for sides in found if sides), 5000)

    def test_near_five_thousand(self):
        for rows, sides in [
            (((0, 1, 3, 4), (1, 2, 3, 4, 5), (0, 1, 2, 3, 4, 5), (1, 2, 3, 4, 5), (2, 4, 5), (2, 3, 4, 5)), 4968),
            (((0, 5), (0, 1, 5), (1, 2, 4, 5), (0, 1, 2, 3), (0, 1, 2, 3, 4, 5), (0, 1, 3, 4, 5)), None),
        ]:
            self.assertEqual(even_sides(Table(rows), (0, 1, 2, 3, 4, 5)), sides)
            self.assertEqual(self.plain_sides(Table(rows), (0, 1, 2, 3, 4, 5)), sides)

    def test_is_least(self):
        """Of all drawers of fewer sides none is even, where what is behind the first draw is sure."""
        table = Table(((0, 1), (0, 1, 2), (1, 2)))
        self.assertEqual(even_sides(table, TURN), 3)
        self.assertEqual(even_sides(table, (2, 0, 1)), 6)
        for sides, right in ((1, 0), (2, 0), (3, 6)):
            found = []
            for told in itertools.product((0, 1, 2), repeat=sides):
                def pick(standing, person, throw):
                    return told[throw] if person == 1 else open_things(table, standing, person)[0]
                found.append(drawer_even(table, TURN, sides, pick))
            self.assertEqual(found.count(True), right)


class WrongThingsTest(PlainTest):

    def test_no_turn(self):
        for turn in odd_turns(3):
            for table in (W, STUCK):
                for sides in (1, 0, None):
                    for function in (drawer_chances, drawer_even):
                        self.assert_raises("NoTurn", {}, function, table, turn, sides, failing)
                self.assert_raises("NoTurn", {}, even_sides, table, turn)
        self.assert_raises("NoTurn", {}, even_sides, full(7), (0, 1, 2, 3, 4, 5))

    def test_no_number(self):
        for sides in odd_numbers() + [0, 13, -1, 100, (1,), [2], Draw(W)]:
            if sides.__class__ is int and 1 <= sides <= 12:
                continue
            for table in (W, STUCK, full(7)):
                for function in (drawer_chances, drawer_even):
                    self.assert_raises("NoNumber", {}, function, table, tuple(range(table.size)), sides, failing)

    def test_stuck(self):
        for table in (STUCK, Table(((),)), beside(STUCK, full(5))):
            turn = tuple(range(table.size))
            for function in (drawer_chances, drawer_even):
                self.assert_raises("Stuck", {}, function, table, turn, 3, failing)
            self.assert_raises("Stuck", {}, even_sides, table, turn)
        self.assertTrue(issubclass(NoPerson, DrawError))


if __name__ == "__main__":
    unittest.main()
