"""Promises 5.1, 5.2: standings."""

import itertools
import math
import unittest

from fullorring.standings import (
    is_sound, is_standing, known_of, left_things, many_after, open_people, open_things, settled,
)
from fullorring.tables import Table, beside, full, names, ring, with_tie
from plain import (
    PlainTest, W, all_tables, dealings, great_table, odd_numbers, odd_tuples, shuffled, some_tables,
)

NOBODY = (None, None, None)
NEARLY = (1, None, None)
# A standing that is not sound: what is left is for nobody who is left.
THIN = Table(((0, 1), (0,), (1, 2)))
UNSOUND = (0, None, None)


def tables():
    return all_tables(1) + all_tables(2) + all_tables(3)[::9] + some_tables(3, 12) + some_tables(4, 10) + [W, names(4)]


def every_tuple(size):
    return itertools.product([None, *range(size)], repeat=size)


def is_plain_standing(table, lot):
    drawn = [one for one in lot if one is not None]
    return len(set(drawn)) == len(drawn) and all(
        one is None or one in table.rows[person] for person, one in enumerate(lot)
    )


def behind(table, standing):
    """The dealings that have all things of the standing."""
    return [one for one in dealings(table.rows) if all(own in (None, had) for own, had in zip(standing, one))]


def standings(table):
    return [lot for lot in every_tuple(table.size) if is_plain_standing(table, lot)]


def drawn_too(standing, person, thing):
    return standing[:person] + (thing,) + standing[person + 1:]


class StandingsTest(PlainTest):

    def test_is_standing_and_is_sound(self):
        for table in tables():
            for lot in every_tuple(table.size):
                right = is_plain_standing(table, lot)
                self.assert_flag(right, is_standing(table, lot), table.rows, lot)
                self.assert_flag(right and len(behind(table, lot)) > 0, is_sound(table, lot), table.rows, lot)

    def test_many_after(self):
        for table in tables():
            for standing in standings(table):
                self.assertEqual(many_after(table, standing), len(behind(table, standing)))

    def test_open_and_left(self):
        for table in tables():
            for standing in standings(table):
                for person in range(table.size):
                    self.check_person(table, standing, person)
                for thing in range(table.size):
                    self.check_thing(table, standing, thing)

    def check_person(self, table, standing, person):
        if standing[person] is not None:
            self.assert_raises("NoPerson", {}, open_things, table, standing, person)
            self.assert_raises("NoPerson", {}, left_things, table, standing, person)
            return
        left = [thing for thing in table.rows[person] if thing not in standing]
        found = [thing for thing in left if behind(table, drawn_too(standing, person, thing))]
        self.assertEqual(left_things(table, standing, person), left)
        self.assertEqual(open_things(table, standing, person), found)

    def check_thing(self, table, standing, thing):
        if thing in standing:
            self.assert_raises("NoThing", {}, open_people, table, standing, thing)
            return
        people = [person for person in range(table.size) if standing[person] is None and thing in table.rows[person]]
        found = [person for person in people if behind(table, drawn_too(standing, person, thing))]
        self.assertEqual(open_people(table, standing, thing), found)

    def test_settled_and_known(self):
        for table in tables():
            for standing in standings(table):
                listed = behind(table, standing)
                if not listed:
                    self.assert_raises("NoStanding", {}, settled, table, standing)
                    self.assert_raises("NoStanding", {}, known_of, table, standing, 0)
                    continue
                had = [sorted({one[person] for one in listed}) for person in range(table.size)]
                self.assertEqual(settled(table, standing), {p: lot[0] for p, lot in enumerate(had) if len(lot) == 1})
                for person in range(table.size):
                    self.assertEqual(known_of(table, standing, person), had[person])


class EdgesTest(PlainTest):

    def test_nobody_and_everybody(self):
        self.assertEqual(many_after(W, NOBODY), 4)
        self.assertEqual(open_things(W, NOBODY, 0), [1, 2])
        self.assertEqual(settled(W, NOBODY), {})
        self.assertEqual(settled(W, (1, 0, 2)), {0: 1, 1: 0, 2: 2})
        self.assertEqual(many_after(W, (1, 0, 2)), 1)
        self.assertEqual(known_of(W, (1, 0, 2), 1), [0])
        self.assertEqual(known_of(W, NEARLY, 0), [1])
        self.assertEqual(known_of(W, NEARLY, 2), [0, 2])
        self.assertEqual(settled(Table(((0,), (0, 1))), (None, None)), {0: 0, 1: 1})
        for person in range(3):
            self.assert_raises("NoPerson", {}, open_things, W, (1, 0, 2), person)
            self.assert_raises("NoThing", {}, open_people, W, (1, 0, 2), person)

    def test_not_sound(self):
        self.assert_flag(True, is_standing(THIN, UNSOUND))
        self.assert_flag(False, is_sound(THIN, UNSOUND))
        self.assertEqual(many_after(THIN, UNSOUND), 0)
        self.assertEqual(open_things(THIN, UNSOUND, 1), [])
        self.assertEqual(open_things(THIN, UNSOUND, 2), [])
        self.assertEqual(left_things(THIN, UNSOUND, 1), [])
        self.assertEqual(left_things(THIN, UNSOUND, 2), [1, 2])
        self.assertEqual(open_people(THIN, UNSOUND, 1), [])
        self.assert_raises("NoStanding", {}, settled, THIN, UNSOUND)
        self.assert_raises("NoStanding", {}, known_of, THIN, UNSOUND, 0)

    def test_one_person_alone(self):
        self.assertEqual(open_things(full(1), (None,), 0), [0])
        self.assertEqual(open_people(full(1), (None,), 0), [0])
        self.assertEqual(settled(full(1), (None,)), {0: 0})
        self.assertEqual(open_things(names(1), (None,), 0), [])
        self.assertEqual(left_things(names(1), (None,), 0), [])
        self.assert_flag(True, is_standing(names(1), (None,)))
        self.assert_flag(False, is_sound(names(1), (None,)))
        self.assert_flag(False, is_standing(names(1), (0,)))

    def test_great_tables(self):
        great = with_tie(beside(full(12), beside(names(12), ring(12))), 0, 35)
        nobody = (None,) * 36
        self.assertEqual(many_after(great, nobody), math.factorial(12) * 176214841 * 2)
        self.assertEqual(open_things(great, nobody, 0), list(range(12)))
        self.assertEqual(left_things(great, nobody, 0), list(range(12)) + [35])
        self.assertEqual(open_people(great, nobody, 35), [34, 35])
        drawn = (None,) * 24 + (25,) + (None,) * 11
        self.assertEqual(settled(great, drawn), {24 + at: 24 + (at + 1) % 12 for at in range(12)})
        self.assertEqual(known_of(great, drawn, 35), [24])
        self.assertEqual(many_after(great, drawn), math.factorial(12) * 176214841)
        self.assert_flag(False, is_sound(great, (35,) + nobody[1:]))
        self.assert_flag(True, is_standing(great, (35,) + nobody[1:]))
        self.assert_flag(True, is_sound(shuffled(great_table()), (None,) * 40))
        self.assert_raises("NoPerson", {}, open_things, great, nobody, 36)
        self.assert_raises("NoThing", {}, open_people, great, nobody, 36)


class WrongThingsTest(PlainTest):

    WRONG = [
        (), (1,), (1, None), (1, 0, 2, None), (None,) * 4, (1, 1, None), (2, None, 2), (0, None, None), (3, None, None),
        (None, -1, None), (True, None, None), (1, False, None), (None, "0", None), (None, None, (0,)), (1, None, [2]),
        [1, None, None], [None, None, None], {0: 1, 1: None, 2: None}, "1--", b"102", range(3), None, 0,
        (None, full(3), None), (None, None, 10 ** 59),
    ]

    def test_no_standing(self):
        for thing in self.WRONG + odd_tuples((1, 0, 2)):
            self.assert_flag(False, is_standing(W, thing), thing)
            self.assert_flag(False, is_sound(W, thing), thing)
            self.assert_raises("NoStanding", {}, many_after, W, thing)
            self.assert_raises("NoStanding", {}, settled, W, thing)
            for function in (open_things, left_things, open_people, known_of):
                self.assert_raises("NoStanding", {}, function, W, thing, 0)
                self.assert_raises("NoStanding", {}, function, W, thing, None)
                self.assert_raises("NoStanding", {}, function, W, thing, 3)

    def test_no_person_or_thing(self):
        for thing in odd_numbers() + [3]:
            for function in (open_things, left_things, known_of):
                self.assert_raises("NoPerson", {}, function, W, NOBODY, thing)
                self.assert_raises("NoPerson", {}, function, W, NEARLY, thing)
            self.assert_raises("NoThing", {}, open_people, W, NOBODY, thing)
            self.assert_raises("NoPerson", {}, open_things, THIN, UNSOUND, thing)
            self.assert_raises("NoStanding", {}, known_of, THIN, UNSOUND, thing)
        self.assert_raises("NoPerson", {}, open_things, W, NEARLY, 0)
        self.assert_raises("NoPerson", {}, left_things, W, NEARLY, 0)
        self.assert_raises("NoThing", {}, open_people, W, NEARLY, 1)

    def test_answers_are_new(self):
        for standing in (NOBODY, NEARLY, (1, 0, 2)):
            self.assert_new(settled, W, standing)
            self.assert_new(known_of, W, standing, 1)
        for standing in (NOBODY, NEARLY):
            self.assert_new(open_things, W, standing, 2)
            self.assert_new(left_things, W, standing, 2)
            self.assert_new(open_people, W, standing, 0)
        self.assert_new(open_things, THIN, UNSOUND, 1)
        self.assert_new(left_things, ring(3), NOBODY, 1)


if __name__ == "__main__":
    unittest.main()
