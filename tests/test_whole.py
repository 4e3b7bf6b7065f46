"""The whole document: its examples, tables of every kind for every function, and what is said of all of them (Part 0)."""

import copy
import functools
import importlib
import inspect
import random
import sys
import unittest

from fullorring.books import book_chance, book_even, book_history, book_uneven, next_comer, turn_book
from fullorring.booktexts import book_text, read_book
from fullorring.chances import chance, leaning, likeliest, spread, thing_chance, through, unlikeliest
from fullorring.copies import copies_alike, many_outcomes, outcome, outcome_chance, outcomes_even, weights
from fullorring.cures import cheapest_cure, cures, fewest_cure, is_cure, wish_cure
from fullorring.dealings import dealing, is_dealing, is_short_lot, short_lot
from fullorring.errors import DrawError
from fullorring.even import always_even, fork, is_even, is_fork, is_tilted, is_uneven, tilted, uneven
from fullorring.exchanging import exchanged, exchanges, is_carried, islands, parted, steps_between, stirred
from fullorring.heights import heights, is_heights
from fullorring.kinds import Kinds, families, families_even, families_many, kinds_table
from fullorring.knowing import earliest, is_telling, latest, mean_told, quickest, telling, told_after
from fullorring.live import Draw
from fullorring.numbers import all_dealings, dealing_at, dealing_number, many_dealings, many_with
from fullorring.papers import is_paper, paper
from fullorring.pieces import filled_lot, idle_ties, is_filled_lot, piece_kinds, pieces, round_of, sure_ties
from fullorring.plans import is_plan, is_plan_bar, people_plan, plan, plan_bar
from fullorring.reading import read_dealing, read_table
from fullorring.standings import is_sound, is_standing, known_of, left_things, many_after, open_people, open_things, settled
from fullorring.strangers import drawer_chances, drawer_even, even_sides
from fullorring.tables import Table, beside, full, kept, names, renumbered, ring, ties, turned, with_tie, without_tie
from fullorring.texts import dealing_text, table_text
from fullorring.tickets import even_tickets, is_even_tickets, is_twist, ticket_chance, twist
from plain import CUSTOMS, STUCK, W, PlainTest, great_table, listed, odd_numbers, shuffled, some_tables, with_dealing
from test_interface import INTERFACE

N4 = names(4)
R3 = ring(3)


class ExamplesTest(PlainTest):

    def test_examples(self):
        for told, right in [
            (piece_kinds(R3), ["ring"]), (piece_kinds(N4), ["other"]), (round_of(R3, 0), (0, 0, 2, 2, 1, 1)),
            (many_dealings(N4), 9), (dealing_at(N4, 0), (1, 0, 3, 2)),
            (always_even(names(3), "ahead"), True), (always_even(N4, "ahead"), False), (always_even(names(3), "anew"), False),
            (chance(W, (0, 1, 2), "ahead", (1, 0, 2)), (1, 4)), (chance(W, (1, 0, 2), "ahead", (1, 0, 2)), (1, 6)),
            (is_even(W, (0, 1, 2), "ahead"), True), (is_fork(W, (1, 0, 2), ((None, None, None), 1, 0, 2)), True),
            (book_even(N4, ("named",)), True),
            (plan(names(5)), None),
            (fewest_cure(N4, "ahead"), 2), (cures(N4, "ahead")[0], ((0, 1), (1, 0))),
            (families_even((3, 1, 2), "ahead"), True), (families_many((2, 1, 1), 1000), 4),
            (latest(R3, (0, 1, 2)), 1),
            (even_tickets(W, (1, 0, 2)),
             {(0, 1): 1, (0, 2): 1, (1, 0): 2, (1, 1): 1, (1, 2): 1, (2, 0): 1, (2, 1): 1, (2, 2): 1}),
            (table_text(W), "1 2\n0 1 2\n0 1 2\n"),
        ]:
            self.assertEqual(told, right)
            self.assertIs(told.__class__, right.__class__)


def asked(table, seed=1):
    """Calls of every function with a table, right arguments of it, and the answers of others."""
    chance_of = random.Random(seed)
    size = table.size
    turn = tuple(chance_of.sample(range(size), size))
    lot = dealing(table)
    looks = tuple(chance_of.randrange(3) for _ in range(size))
    person, thing = chance_of.randrange(size), chance_of.randrange(size)
    order = tuple(chance_of.sample(range(size), size))
    some = tuple(sorted(chance_of.sample(range(size), (size + 1) // 2)))
    calls = [
        (function, table) for function in (
            ties, turned, table_text, dealing, short_lot, many_dealings, all_dealings, idle_ties, sure_ties, pieces, piece_kinds, paper, plan,
            people_plan, plan_bar, islands, is_carried, parted, quickest, telling, Draw)
    ]
    calls += [
        (with_tie, table, person, thing), (without_tie, table, person, thing), (renumbered, table, turn, order), (beside, table, R3),
        (beside, W, table), (kept, table, some, some), (dealing_at, table, 0), (many_with, table, [(person, thing)] * 2),
        (many_with, table, ((0, 0), (size - 1, size - 1))), (is_short_lot, table, some), (filled_lot, table, person, thing), (round_of, table, 0),
        (heights, table, turn), (fork, table, turn), (turn_book, table, turn), (even_tickets, table, turn), (twist, table, turn),
        (latest, table, turn), (earliest, table, turn), (even_sides, table, turn), (copies_alike, table, looks), (weights, table, looks),
        (many_outcomes, table, looks), (is_telling, table, some), (drawer_chances, table, turn, 3, least_left), (drawer_even, table, turn, 3, least_left),
        (book_even, table, ("named",)), (book_uneven, table, ("else", ("giver",), ("most",))), (next_comer, table, ("fewest",), ()),
    ]
    for custom in CUSTOMS:
        calls += [(function, table, turn, custom) for function in (
            through, likeliest, unlikeliest, leaning, spread, is_even, uneven, mean_told)]
        calls += [(thing_chance, table, turn, custom, person, thing), (outcomes_even, table, looks, turn, custom)]
        calls += [(function, table, custom) for function in (always_even, tilted, fewest_cure, cures)]
        calls += [(cheapest_cure, table, custom, dict.fromkeys(ties(table), 3)), (wish_cure, table, custom, person, thing), (is_cure, table, custom, ())]
    if lot is not None:
        standing = tuple(own if at in some else None for at, own in enumerate(lot))
        rest = [at for at in range(size) if at not in some] or [person]
        calls += [(function, table, standing) for function in (is_standing, is_sound, many_after, settled)]
        calls += [
            (open_things, table, standing, rest[0]), (left_things, table, standing, rest[0]), (open_people, table, standing, lot[rest[0]]),
            (known_of, table, standing, person), (dealing_number, table, lot), (is_dealing, table, lot), (dealing_text, lot), (dealing_text, standing),
            (book_chance, table, ("named",), lot), (book_history, table, ("giver",), lot), (exchanges, table, lot), (exchanged, table, lot, ()),
            (steps_between, table, lot, lot), (told_after, table, turn, lot), (outcome, table, looks, lot),
            (ticket_chance, table, turn, {tie: 2 for tie in ties(table) if tie not in idle_ties(table)}, lot),
        ]
        for custom in CUSTOMS:
            calls += [(chance, table, turn, custom, lot), (outcome_chance, table, looks, turn, custom, outcome(table, looks, lot))]
    return calls


def least_left(standing, person, throw):
    """A drawer for all tables, that looks at no table."""
    return min(thing for thing in range(len(standing)) if thing not in standing)


def answer(call):
    """The answer, or the class and the fields of the error; a draw by its table."""
    try:
        told = call[0](*call[1:])
    except DrawError as error:
        return error.__class__, vars(error)
    return told.table() if isinstance(told, Draw) else told


def plain_of(told):
    """What was told without the classes of the package, so that it can be compared whatever made it."""
    return ("table", told.rows, told.size) if isinstance(told, Table) else told


class EveryFunctionTest(PlainTest):

    def made(self):
        """Pairs of a table that was made by some function, and its rows."""
        found = []
        for table in some_tables(4, 4) + some_tables(5, 2) + [W, N4, STUCK, full(1)]:
            size = table.size
            found += [table, turned(turned(table)), kept(beside(W, table), tuple(range(3, 3 + size)), tuple(range(3, 3 + size)))]
            found.append(kinds_table(Kinds((1,) * size, (1,) * size, table.rows)))
            if listed(table.rows):
                draw = Draw(without_tie(with_tie(table, 0, size - 1), 0, size - 1) if size - 1 not in table.rows[0] else table)
                found.append(draw.table())
            found.append(read_table(table_text(table)))
        return found

    def test_what_made_a_table_does_not_matter(self):
        for table in self.made():
            before = (table.rows, table.size)
            self.assertEqual(table, Table(table.rows))
            same = Table(tuple(tuple(row) for row in table.rows))
            for call, call_too in zip(asked(table), asked(same)):
                self.assertEqual(plain_of(answer(call)), plain_of(answer(call_too)), (call[0].__name__, table.rows))
            self.assertEqual((table.rows, table.size), before)

    def test_arguments_stay_and_answers_are_new(self):
        for table in with_dealing(some_tables(4, 8) + [W, R3, beside(W, full(1))]) + [STUCK]:
            for call in asked(table, 2):
                before = copy.deepcopy([one for one in call[1:] if one is not least_left])
                told = answer(call)
                self.assertEqual([one for one in call[1:] if one is not least_left], before, call[0].__name__)
                kept_one = copy.deepcopy(told)
                self.spoil(told)
                self.assertEqual(plain_of(answer(call)), plain_of(kept_one), call[0].__name__)

    def spoil(self, told):
        """Change all lists and dicts in an answer."""
        if isinstance(told, dict):
            for inner in list(told.values()):
                self.spoil(inner)
            told.clear()
        elif isinstance(told, (list, tuple)):
            for inner in told:
                self.spoil(inner)
            if isinstance(told, list):
                told.append("spoiled")

    def test_every_function_is_asked(self):
        names_asked = {call[0].__name__ for call in asked(W)}
        every = {line.partition("(")[0] for part in INTERFACE.values() for line in part if "table, " in line or "(table)" in line}
        missing = every - names_asked
        self.assertEqual(missing, {name for name in missing if name.startswith("is_") or name == "read_book" or name == "stirred"})


class FactsTest(PlainTest):
    """What one function finds another one takes, and it judges it right; the facts, over tables of every kind."""

    def check(self, table):
        turn = tuple(random.Random(table.size).sample(range(table.size), table.size))
        lot, short = dealing(table), short_lot(table)
        self.assertTrue((lot is None) != (short is None))
        if lot is None:
            self.assert_flag(True, is_short_lot(table, short))
            return
        self.assert_flag(True, is_dealing(table, lot))
        self.assertEqual(dealing_at(table, dealing_number(table, lot)), lot)
        self.assertEqual(read_dealing(dealing_text(lot)), lot)
        for person, thing in ties(table):
            filled = filled_lot(table, person, thing)
            self.assertEqual(filled is not None, (person, thing) in idle_ties(table))
            if filled is not None:
                self.assert_flag(True, is_filled_lot(table, person, thing, filled))
        whole = paper(table)
        self.assert_flag(whole is not None, always_even(table, "ahead"))
        self.assertEqual(all(kind in ("full", "ring") for kind in piece_kinds(table)), whole is not None)
        if whole is not None:
            self.assert_flag(True, is_paper(table, whole))
        for custom in ("ahead", "anew"):
            leant = tilted(table, custom)
            self.assert_flag(leant is None, always_even(table, custom))
            if leant is not None:
                self.assert_flag(True, is_tilted(table, custom, leant))
                self.assert_flag(True, is_uneven(table, leant[0], custom, leant[1:]))
        self.check_turn(table, turn, lot)
        self.check_few(table, turn)

    def check_turn(self, table, turn, lot):
        found = fork(table, turn)
        self.assert_flag(found is None, is_even(table, turn, "ahead"))
        if found is not None:
            self.assert_flag(True, is_fork(table, turn, found))
        book = turn_book(table, turn)
        self.assertEqual(read_book(table, book_text(book)), book)
        self.assertEqual(next_comer(table, book, ()), ("person", turn[0]))
        self.assertEqual(book_chance(table, book, lot), chance(table, turn, "ahead", lot))
        self.assertEqual(book_history(table, book, lot), tuple((person, lot[person]) for person in turn))
        if many_dealings(table) <= 300:
            self.assert_flag(found is None, book_even(table, book))
            self.assertEqual(book_uneven(table, book) is None, found is None)
        self.assertLessEqual(told_after(table, turn, lot), latest(table, turn))
        self.assertGreaterEqual(told_after(table, turn, lot), earliest(table, turn))
        draw = Draw(table)
        for person, thing in book_history(table, ("else", ("named",), ("giver",)), lot):
            draw.draw(("person", person), thing)
        self.assertEqual(draw.standing(), lot)
        self.assertEqual((draw.many(), draw.rest_even()), (1, True))

    def check_few(self, table, turn):
        if table.size <= 9:
            tickets, twisted = even_tickets(table, turn), twist(table, turn)
            self.assertTrue((tickets is None) != (twisted is None))
            if tickets is None:
                self.assert_flag(True, is_twist(table, turn, twisted))
            else:
                self.assert_flag(True, is_even_tickets(table, turn, tickets))
            bound = likeliest(table, turn, "ahead")[0]
            self.assert_flag(True, is_heights(table, turn, bound, heights(table, turn)))
        if table.size <= 6:
            book, bar = plan(table), plan_bar(table)
            self.assertTrue((book is None) != (bar is None))
            self.assert_flag(True, is_plan(table, book) if bar is None else is_plan_bar(table, bar))
        if many_dealings(table) <= 60:
            self.assert_flag(parted(table) is None, is_carried(table))
            one, other = islands(table)[0][0], islands(table)[0][-1]
            self.assertEqual(exchanged(table, one, steps_between(table, one, other)), other)
            alike = {lot: (1, many_dealings(table)) for lot in all_dealings(table)}
            self.assertEqual(stirred(table, stirred(table, alike)), alike)
            self.assert_flag(True, is_telling(table, telling(table)[1]))
            self.assertEqual(sum(weights(table, (0,) * table.size).values()), many_dealings(table))
        if len(ties(table)) <= 20:
            for custom in ("ahead", "anew"):
                for lot in cures(table, custom)[:3]:
                    self.assert_flag(True, is_cure(table, custom, lot))
                self.assertEqual(cheapest_cure(table, custom, dict.fromkeys(ties(table), 2))[0], 2 * fewest_cure(table, custom))

    def test_small_tables(self):
        for table in some_tables(3, 16) + some_tables(4, 24) + some_tables(5, 12) + some_tables(6, 8) + [full(1), W, N4, names(6), ring(6), full(5)]:
            self.check(table)

    def test_tables_of_families(self):
        for sizes in ((1, 1), (2, 2), (3, 1, 2), (1, 1, 1), (2, 1, 1), (1,) * 5, (2, 2, 1), (3, 3)):
            self.check(kinds_table(families(sizes)))

    def test_more_than_twelve_people(self):
        for table in [
            beside(ring(12), W), beside(shuffled(ring(12)), names(3)), shuffled(beside(beside(full(3), ring(4)), beside(W, names(4)))),
            with_tie(beside(ring(7), beside(full(2), ring(6))), 0, 14), kept(great_table(), tuple(range(22, 40)), tuple(range(22, 40))),
            with_tie(with_tie(beside(ring(12), ring(12)), 0, 13), 12, 1), beside(STUCK, full(12)), turned(beside(beside(ring(9), W), ring(3))),
            functools.reduce(beside, [ring(2)] * 7), functools.reduce(beside, [full(1)] * 40), functools.reduce(beside, [W, R3, full(2)] * 4),
            great_table(), Draw(beside(beside(ring(12), ring(12)), ring(3))).table(),
        ]:
            self.check(table)

    def test_tables_of_a_live_draw(self):
        chance_of = random.Random(6)
        for table in with_dealing(some_tables(5, 12)) + [beside(ring(9), W), beside(names(4), ring(10))]:
            draw = Draw(table)
            for _ in range(6):
                person, thing = chance_of.randrange(table.size), chance_of.randrange(table.size)
                try:
                    (draw.strike if thing in draw.table().rows[person] else draw.allow)(person, thing)
                except DrawError:
                    continue
            self.check(draw.table())


class ReturnedTest(PlainTest):

    def test_books_of_turns_of_more_than_24_people(self):
        table = functools.reduce(beside, [ring(12), ring(12), full(4), W])
        turn = tuple(range(31))[::-1]
        book = turn_book(table, turn)
        lot = dealing(table)
        self.assertEqual(next_comer(table, book, ()), ("person", 30))
        self.assertEqual(book_chance(table, book, lot), chance(table, turn, "ahead", lot))
        self.assertEqual(read_book(table, book_text(book)), book)
        self.assertEqual(book_history(table, ("if", ("drawn", 3), book, ("named",)), lot)[0], (0, lot[0]))
        self.assert_flag(book_uneven(table, book) is None, book_even(table, book))
        people = book[1]
        for comers in (people[:25], people + people[:1], people[:-1] + (("thing", 0),), people[1:] + people[1:2], (("thing", 0),) * 31, people * 2,
                       tuple(("thing", at) for at in range(31)), people + (("thing", 0),)):
            self.assert_raises("NoBook", {}, next_comer, table, ("row", comers), ())
            self.assert_raises("BadText", {"line": 1}, read_book, table, book_text(("row", comers)))
        for other in (W, full(12), beside(full(12), ring(12)), beside(table, full(1))):
            self.assert_raises("NoBook", {}, next_comer, other, book, ())
            self.assert_raises("BadText", {"line": 1}, read_book, other, book_text(book))
        # For fewer people a row holds 24 comers at most, also if all people are among them.
        for size in (4, 12):
            comers = (tuple(("person", at) for at in range(size)) * 7)[:25]
            self.assert_raises("NoBook", {}, next_comer, full(size), ("row", comers), ())
            more = tuple(("person", at) for at in range(size)) + (("thing", 0),) * (25 - size)
            self.assert_raises("NoBook", {}, next_comer, full(size), ("row", more), ())

    def test_great_numbers(self):
        table = functools.reduce(beside, [full(12), full(12), full(12), full(4)])
        many = many_dealings(table)
        self.assertEqual(many, 479001600 ** 3 * 24)
        self.assertEqual(dealing_number(table, dealing_at(table, many - 1)), many - 1)
        self.assert_raises("NoNumber", {}, dealing_at, table, many)
        self.assertEqual(chance(table, tuple(range(40)), "strict", tuple(range(40))), (1, many))


class NoRecursionTest(PlainTest):

    def test_little_room(self):
        """All calls get along with a few hundred frames more."""
        tables = [W, beside(names(5), ring(12)), functools.reduce(beside, [full(1)] * 40), functools.reduce(beside, [ring(2)] * 8)]
        calls = [call for table in tables for call in asked(table)]
        limit, used = sys.getrecursionlimit(), len(inspect.stack())
        sys.setrecursionlimit(used + 300)
        try:
            for call in calls:
                answer(call)
        finally:
            sys.setrecursionlimit(limit)

    def test_deep_things(self):
        for part, told in INTERFACE.items():
            for line in told:
                name, _, parameters = line.partition("(")
                if not name.startswith("is_") or name == "is_carried":
                    continue
                function = getattr(importlib.import_module("fullorring." + part), name)
                given = {"table": W, "turn": (1, 0, 2), "custom": "ahead", "bound": (1, 1), "person": 0, "thing": 1}
                words = parameters[:-1].split(", ")
                for thing in odd_numbers():
                    if name in ("is_even",):
                        self.assert_raises("NoCustom", {}, function, W, (1, 0, 2), thing if not isinstance(thing, str) else "x")
                        continue
                    told_flag = function(*[given[word] for word in words[:-1]], thing)
                    self.assertIn(told_flag, (True, False), (name, thing))
                    self.assertIs(told_flag.__class__, bool, (name, thing))


if __name__ == "__main__":
    unittest.main()
