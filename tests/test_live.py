"""Promise 16.1: a live draw."""

import copy
import itertools
import random
import unittest

from fullorring.even import always_even
from fullorring.live import Draw
from fullorring.numbers import many_dealings
from fullorring.standings import is_sound, is_standing
from fullorring.tables import Table, beside, full, names, ring, ties, with_tie, without_tie
from plain import (
    STUCK, W, PlainTest, all_tables, great_table, listed, odd_numbers, odd_tuples, plain_chances, some_tables, with_dealing,
)


class Plain:
    """A draw found out plainly: the rows, the pairs that were drawn, and what was ahead of each deed."""

    def __init__(self, table):
        self.rows = table.rows
        self.pairs = []
        self.past = []

    def lots(self, rows=None, more=()):
        return [lot for lot in listed(self.rows if rows is None else rows)
                if all(lot[person] == thing for person, thing in self.pairs + list(more))]

    def is_left(self, comer):
        return comer[1] not in [pair[0 if comer[0] == "person" else 1] for pair in self.pairs]

    def open_for(self, comer):
        if comer[0] == "person":
            return sorted({lot[comer[1]] for lot in self.lots()})
        return sorted({lot.index(comer[1]) for lot in self.lots()})

    def go_on(self, rows, pairs):
        self.past.append((self.rows, self.pairs))
        self.rows, self.pairs = rows, pairs

    def with_row(self, person, row):
        return self.rows[:person] + (tuple(sorted(row)),) + self.rows[person + 1:]

    def standing(self):
        held = dict(self.pairs)
        return tuple(held.get(person) for person in range(len(self.rows)))

    def settled(self):
        columns = {person: {lot[person] for lot in self.lots()} for person in range(len(self.rows))}
        return {person: min(things) for person, things in columns.items() if len(things) == 1}

    def rest_even(self):
        """All orders of those who have not drawn, who draw of what is open."""
        left = [person for person in range(len(self.rows)) if person not in dict(self.pairs)]
        drawn = tuple(person for person, _ in self.pairs)
        rows = tuple((dict(self.pairs)[person],) if person in drawn else row for person, row in enumerate(self.rows))
        return all(len(set(plain_chances(rows, drawn + order, "ahead").values())) == 1 for order in itertools.permutations(left))


def comers(size):
    return [(kind, number) for kind in ("person", "thing") for number in range(size)]


def state(draw):
    """All that a draw tells of itself."""
    table = draw.table()
    found = [table.rows, draw.standing(), draw.history(), draw.many(), draw.settled(), draw.rest_even(), draw.deeds()]
    found.append([draw.open_for(comer) for comer in comers(table.size) if is_left(draw, comer)])
    return found


def is_left(draw, comer):
    return draw.standing()[comer[1]] is None if comer[0] == "person" else comer[1] not in draw.standing()


def tables():
    return with_dealing(all_tables(1) + all_tables(2) + all_tables(3)[::9] + some_tables(4, 24)
                        + [W, names(4), full(3), ring(4), beside(W, full(1))])


class DrawTest(PlainTest):

    def check(self, draw, plain):
        """The draw tells what the plain one does."""
        self.assertEqual(draw.table(), Table(plain.rows))
        self.assertEqual(draw.standing(), plain.standing())
        self.assertEqual(draw.history(), tuple(plain.pairs))
        self.assertIs(draw.history().__class__, tuple)
        self.assertEqual(draw.many(), len(plain.lots()))
        self.assertEqual(draw.settled(), plain.settled())
        self.assertEqual(draw.deeds(), len(plain.past))
        for comer in comers(len(plain.rows)):
            if plain.is_left(comer):
                self.assertEqual(draw.open_for(comer), plain.open_for(comer), (plain.rows, plain.pairs, comer))
            else:
                self.assert_raises("NoComer", {}, draw.open_for, comer)
                self.assert_raises("NoComer", {}, draw.draw, comer, 0)
                self.assert_raises("NoComer", {}, draw.draw, comer, None)

    def deed(self, draw, plain, chance_of):
        """One deed on both, or none if it is none that may be done."""
        size = len(plain.rows)
        word = chance_of.choice(("draw", "draw", "draw", "strike", "allow", "back"))
        person, thing = chance_of.randrange(size), chance_of.randrange(size)
        if word == "back":
            if not plain.past:
                return self.assert_raises("NothingDone", {}, draw.back)
            plain.rows, plain.pairs = plain.past.pop()
            return self.assertIs(draw.back(), None)
        if word == "draw":
            comer = chance_of.choice(comers(size))
            if plain.is_left(comer):
                some = plain.open_for(comer)
                for choice in range(size):
                    if choice not in some:
                        self.assert_raises("NotOpen", {}, draw.draw, comer, choice)
                choice = chance_of.choice(some)
                pair = (comer[1], choice) if comer[0] == "person" else (choice, comer[1])
                plain.go_on(plain.rows, plain.pairs + [pair])
                self.assertIs(draw.draw(comer, choice), None)
        if word == "strike":
            rows = plain.with_row(person, [one for one in plain.rows[person] if one != thing])
            if rows == plain.rows or not plain.lots(rows):
                return self.assert_raises("NotOpen", {}, draw.strike, person, thing)
            plain.go_on(rows, plain.pairs)
            self.assertIs(draw.strike(person, thing), None)
        if word == "allow":
            if thing in plain.rows[person]:
                return self.assert_raises("NotOpen", {}, draw.allow, person, thing)
            plain.go_on(plain.with_row(person, [*plain.rows[person], thing]), plain.pairs)
            self.assertIs(draw.allow(person, thing), None)
        return None

    def test_deeds_of_chance(self):
        chance_of = random.Random(3)
        for table in tables():
            draw, plain = Draw(table), Plain(table)
            self.check(draw, plain)
            for _ in range(14):
                self.deed(draw, plain, chance_of)
                self.check(draw, plain)
            while plain.past:
                plain.rows, plain.pairs = plain.past.pop()
                draw.back()
                self.check(draw, plain)
            self.assert_raises("NothingDone", {}, draw.back)
            self.assertEqual(draw.table(), table)
            self.assertEqual(draw.deeds(), 0)

    def test_rest_even(self):
        chance_of = random.Random(8)
        found = []
        for table in tables():
            draw, plain = Draw(table), Plain(table)
            self.assert_flag(always_even(table, "ahead"), draw.rest_even())
            for _ in range(6):
                self.deed(draw, plain, chance_of)
                found.append(plain.rest_even())
                self.assert_flag(found[-1], draw.rest_even(), plain.rows, plain.pairs)
        self.assertGreater(found.count(True), 50)
        self.assertGreater(found.count(False), 20)

    def test_from_beginning_to_end(self):
        draw = Draw(W)
        self.assertEqual(state(draw), [W.rows, (None,) * 3, (), 4, {}, False, 0, [[1, 2], [0, 1, 2], [0, 1, 2], [1, 2], [0, 1, 2], [0, 1, 2]]])
        draw.draw(("thing", 0), 1)
        self.assertEqual(draw.history(), ((1, 0),))
        self.assertEqual(draw.standing(), (None, 0, None))
        self.assertEqual((draw.many(), draw.rest_even()), (2, True))
        draw.draw(("person", 2), 1)
        self.assertEqual(draw.history(), ((1, 0), (2, 1)))
        self.assertEqual((draw.many(), draw.settled()), (1, {0: 2, 1: 0, 2: 1}))
        self.assertEqual(draw.open_for(("person", 0)), [2])
        draw.draw(("person", 0), 2)
        self.assertEqual(state(draw)[1:], [(2, 0, 1), ((1, 0), (2, 1), (0, 2)), 1, {0: 2, 1: 0, 2: 1}, True, 3, []])
        for comer in comers(3):
            self.assert_raises("NoComer", {}, draw.open_for, comer)
        for person, thing in ((0, 2), (1, 0), (2, 1)):
            self.assert_raises("NotOpen", {}, draw.strike, person, thing)
        draw.strike(0, 1)
        draw.allow(0, 0)
        self.assertEqual(draw.table(), Table(((0, 2), (0, 1, 2), (0, 1, 2))))
        self.assertEqual(draw.many(), 1)
        for _ in range(5):
            draw.back()
        self.assertEqual(state(draw), state(Draw(W)))

    def test_strike_and_allow(self):
        draw = Draw(Table(((0,), (0, 1))))
        self.assert_raises("NotOpen", {}, draw.strike, 0, 0)
        self.assert_raises("NotOpen", {}, draw.strike, 1, 1)
        self.assert_raises("NotOpen", {}, draw.strike, 0, 1)
        self.assert_raises("NotOpen", {}, draw.allow, 0, 0)
        draw.strike(1, 0)
        self.assertEqual(draw.table(), Table(((0,), (1,))))
        self.assert_raises("NotOpen", {}, draw.strike, 1, 0)
        draw.allow(0, 1)
        self.assertEqual(draw.many(), 1)
        draw.allow(1, 0)
        self.assertEqual((draw.many(), draw.deeds()), (2, 3))
        draw.draw(("person", 0), 1)
        self.assert_raises("NotOpen", {}, draw.strike, 0, 1)
        self.assert_raises("NotOpen", {}, draw.strike, 1, 0)
        draw.strike(0, 0)
        draw.strike(1, 1)
        self.assertEqual((draw.table(), draw.many(), draw.deeds()), (Table(((1,), (0,))), 1, 6))

    def test_deeds_behind_back(self):
        draw = Draw(W)
        draw.strike(1, 2)
        draw.draw(("person", 1), 0)
        draw.back()
        self.assertEqual((draw.deeds(), draw.history(), draw.table()), (1, (), without_tie(W, 1, 2)))
        draw.draw(("thing", 2), 0)
        draw.allow(1, 2)
        self.assertEqual((draw.deeds(), draw.history(), draw.table()), (3, ((0, 2),), W))
        draw.back()
        draw.back()
        draw.back()
        self.assertEqual(state(draw), state(Draw(W)))
        self.assert_raises("NothingDone", {}, draw.back)
        draw.draw(("person", 1), 0)
        self.assertEqual(draw.deeds(), 1)

    def test_copies_go_on_apart(self):
        draw = Draw(W)
        draw.draw(("person", 1), 0)
        draw.strike(0, 2)
        other = draw.copy()
        self.assertIs(other.__class__, Draw)
        self.assertIsNot(other, draw)
        self.assertEqual(state(other), state(draw))
        before = state(draw)
        other.back()
        other.back()
        self.assert_raises("NothingDone", {}, other.back)
        other.draw(("thing", 2), 0)
        self.assertEqual(state(draw), before)
        behind = state(other)
        draw.draw(("person", 2), 2)
        draw.back()
        draw.back()
        draw.back()
        self.assertEqual(state(draw), state(Draw(W)))
        self.assertEqual(state(other), behind)
        third = other.copy().copy()
        third.back()
        self.assertEqual(state(third), state(Draw(W)))
        self.assertEqual(state(other), behind)


class TryingTest(PlainTest):

    def drawn(self):
        draw = Draw(names(4))
        draw.draw(("person", 1), 0)
        draw.allow(0, 0)
        return draw

    def test_returns_what_the_action_returns(self):
        draw = self.drawn()
        for thing in (None, 0, [1], draw, "x", (1, 2)):
            self.assertIs(draw.trying(lambda _: thing), thing)
        self.assertIs(draw.trying(lambda same: same), draw)
        self.assertEqual(draw.trying(Draw.many), draw.many())
        self.assertEqual(draw.trying(Draw.deeds), 2)

    def test_all_is_put_back(self):
        def go_on(draw):
            draw.draw(("thing", 3), 0)
            draw.strike(2, 0)
            draw.allow(3, 3)
            return draw.deeds(), draw.history(), draw.table().rows

        def go_back(draw):
            draw.back()
            draw.back()
            draw.strike(0, 1)
            draw.draw(("person", 3), 2)
            return draw.deeds(), draw.history(), draw.table().rows

        def nest(draw):
            draw.draw(("thing", 3), 0)
            before = state(draw)
            told = draw.trying(go_on if draw.many() == 0 else lambda one: one.back())
            self.assertEqual(state(draw), before)
            return told, draw.trying(lambda one: one.trying(Draw.deeds))

        draw = self.drawn()
        before = state(draw)
        rows = draw.table().rows
        self.assertEqual(draw.trying(go_on), (5, ((1, 0), (0, 3)), (rows[0], rows[1], (1, 3), (0, 1, 2, 3))))
        self.assertEqual(state(draw), before)
        self.assertEqual(draw.trying(go_back), (2, ((3, 2),), ((2, 3), (0, 2, 3), (0, 1, 3), (0, 1, 2))))
        self.assertEqual(state(draw), before)
        self.assertEqual(draw.trying(nest), (None, 3))
        self.assertEqual(state(draw), before)
        draw.back()
        draw.back()
        self.assertEqual(state(draw), state(Draw(names(4))))

    def test_errors_go_on(self):
        class Own(Exception):
            """Of the action's own."""

        def failing(error):
            def action(draw):
                draw.draw(("person", 3), 2)
                draw.back()
                draw.back()
                draw.strike(0, 1)
                raise error
            return action

        draw = self.drawn()
        before = state(draw)
        for error in (Own(), ValueError("x"), KeyError(1), KeyboardInterrupt(), SystemExit(3), StopIteration(), ZeroDivisionError()):
            with self.assertRaises(error.__class__) as caught:
                draw.trying(failing(error))
            self.assertIs(caught.exception, error)
            self.assertEqual(state(draw), before)
        self.assert_raises("NothingDone", {}, draw.trying, lambda one: [one.back() for _ in range(3)])
        self.assert_raises("NoComer", {}, draw.trying, lambda one: one.draw(("person", 1), 0))
        self.assert_raises("NotOpen", {}, draw.trying, lambda one: one.trying(lambda two: two.allow(0, 0)))
        self.assertEqual(state(draw), before)

    def test_a_copy_within_is_apart(self):
        draw = self.drawn()
        other = draw.trying(lambda one: [one.draw(("person", 3), 2), one.copy()][1])
        self.assertEqual((draw.history(), other.history()), (((1, 0),), ((1, 0), (3, 2))))
        other.back()
        self.assertEqual(state(other), state(draw))


class WrongThingsTest(PlainTest):

    def test_stuck(self):
        for table in (STUCK, Table(((),)), beside(STUCK, full(12))):
            self.assert_raises("Stuck", {}, Draw, table)

    def test_wrong_things_change_nothing(self):
        draw = Draw(W)
        draw.draw(("person", 1), 2)
        draw.allow(0, 0)
        before = state(draw)
        wrong = [
            ("person", 1), ("thing", 2), ("person", 3), ("thing", 3), ("person", -1), ["person", 0], ("person",), ("person", 0, 0), ("Person", 0),
            ("people", 0), ("person", "0"), ("person", None), ("person", True), ("thing", False), (0, "person"), (b"person", 0), "person",
            ("person", (0,)), ("person", [0]), {"person": 0}, (None, 0), (("person",), 0), ("person", W), (W, 0), draw, ("person", draw), Draw,
        ]
        for comer in wrong + odd_numbers() + odd_tuples(("person", 0)):
            self.assert_raises("NoComer", {}, draw.open_for, comer)
            for choice in (0, None):
                self.assert_raises("NoComer", {}, draw.draw, comer, choice)
        for choice in odd_numbers() + odd_tuples((0, 1)) + [2, 3, 12, draw]:
            if choice.__class__ is int and choice in (0, 1):
                continue
            for comer in (("person", 0), ("person", 2)):
                self.assert_raises("NotOpen", {}, draw.draw, comer, choice)
        for choice in odd_numbers() + [1, 3, True, False]:
            self.assert_raises("NotOpen", {}, draw.draw, ("thing", 0), choice)
        for one in odd_numbers() + odd_tuples((0, 1)) + [3, 12, draw]:
            if one.__class__ is int and one in (0, 1):
                continue
            for method in (draw.strike, draw.allow):
                self.assert_raises("NoPerson", {}, method, one, 0)
                self.assert_raises("NoPerson", {}, method, one, None)
                self.assert_raises("NoThing", {}, method, 0, one)
        self.assertEqual(state(draw), before)

    def test_lists_and_dicts_are_new(self):
        draw = Draw(names(4))
        draw.draw(("person", 1), 0)
        before = state(draw)
        self.assert_new(draw.open_for, ("person", 0))
        self.assert_new(draw.open_for, ("thing", 1))
        self.assert_new(draw.settled)
        self.assertEqual(state(draw), before)

    def test_the_table_stays(self):
        table = Table(((0, 1), (0, 1)))
        before = copy.deepcopy(table)
        draw = Draw(table)
        draw.strike(0, 0)
        draw.back()
        draw.strike(1, 1)
        draw.draw(("person", 1), 0)
        self.assertEqual(table, before)
        self.assertEqual(Draw(table).table(), table)

    def test_equal_to_nothing_else(self):
        draw = Draw(W)
        for thing in odd_numbers() + [W, Draw(full(1))]:
            self.assertFalse(draw == thing)
            self.assertTrue(draw != thing)
        self.assertTrue(draw == draw)


class GreatTest(PlainTest):

    def test_more_than_twelve_people(self):
        table = great_table()
        draw = Draw(table)
        self.assertEqual(draw.many(), many_dealings(table))
        self.assert_flag(False, draw.rest_even())
        self.assertEqual(draw.open_for(("person", 0)), list(range(12)))
        self.assertEqual(draw.open_for(("thing", 39)), [36, 37, 38, 39])
        for person in range(12, 24):
            draw.draw(("person", person), 12 + (person - 12) // 2 * 2 + (person + 1) % 2)
        self.assert_flag(True, draw.rest_even())
        draw.strike(0, 39)
        draw.draw(("thing", 24), 35)
        self.assertEqual(draw.many(), 479001600 * 24)
        self.assertEqual(len(draw.settled()), 24)
        self.assertEqual((draw.table().size, draw.deeds()), (40, 14))
        self.assertTrue(is_standing(draw.table(), draw.standing()) and is_sound(table, draw.standing()))
        self.assertEqual(len(ties(draw.table())), len(ties(table)) - 1)
        other = Draw(with_tie(draw.table(), 39, 0))
        self.assertEqual(other.table().size, 40)

    def test_what_a_draw_tells_may_be_passed_on(self):
        draw = Draw(ring(12))
        draw.draw(("person", 3), 4)
        self.assertEqual(draw.many(), 1)
        self.assertEqual(many_dealings(draw.table()), 2)
        self.assertEqual(Draw(draw.table()).open_for(("person", 11)), [0, 11])
        self.assertEqual(draw.settled()[11], 0)


if __name__ == "__main__":
    unittest.main()
