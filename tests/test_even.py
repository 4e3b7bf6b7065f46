"""Promises 7.1, 7.2: even or not, forks, the first fact and the main fact."""

import copy
import itertools
import unittest

from fullorring.even import always_even, fork, is_even, is_fork, is_tilted, is_uneven, tilted, uneven
from fullorring.pieces import piece_kinds, pieces
from fullorring.tables import Table, beside, full, names, ring, with_tie, without_tie
from plain import (
    CUSTOMS, STUCK, W, PlainTest, all_tables, choices, great_table, listed, odd_customs, odd_numbers, odd_tuples,
    odd_turns, plain_chances, shuffled, some_tables, turns, with_dealing,
)

ALWAYS = ("ahead", "anew")
NOBODY = (None, None, None)
TURN = (1, 0, 2)
IDLE = Table(((0,), (0, 1, 2), (1, 2)))


def special():
    """Tables of full pieces, rings and others, beside one another and with idle ties from one to another."""
    found = [W, IDLE, full(4), names(4), ring(4), names(3), full(1), beside(full(1), ring(3)), beside(ring(3), full(1))]
    found += [beside(full(2), full(2)), with_tie(beside(full(2), full(2)), 0, 2), beside(full(2), full(1))]
    found += [with_tie(with_tie(beside(full(2), full(2)), 0, 2), 0, 3), with_tie(beside(full(1), full(2)), 0, 1)]
    found += [with_tie(with_tie(beside(full(1), full(2)), 0, 1), 0, 2), with_tie(beside(full(1), ring(3)), 0, 2)]
    found += [with_tie(ring(4), 0, 2), without_tie(ring(4), 0, 0), shuffled(with_tie(beside(full(1), ring(3)), 0, 1))]
    return found


def drawn():
    """Tables with some or all of their turns."""
    found = [(table, turn) for size in (1, 2) for table in all_tables(size) for turn in turns(size)]
    found += [(table, turn) for table in all_tables(3) for turn in turns(3)]
    found += [(table, turn) for at, table in enumerate(some_tables(4, 60)) for turn in turns(4)[at % 6::6]]
    found += [(table, turn) for at, table in enumerate(some_tables(5, 24)) for turn in turns(5)[at % 40::40]]
    found += [(table, turn) for at, table in enumerate(special()) for turn in turns(table.size)[at % 2::2]]
    return [(table, turn) for table, turn in found if listed(table.rows)]


def is_plain_even(table, turn, custom):
    return len(set(plain_chances(table.rows, turn, custom).values())) == 1


def plain_forks(table, turn):
    """All forks, going through everything that can be drawn."""
    found = []
    waiting = [()]
    while waiting:
        things = waiting.pop()
        if len(things) == table.size:
            continue
        held = dict(zip(turn, things))
        standing = tuple(held.get(person) for person in range(table.size))
        person = turn[len(things)]
        some = choices(table.rows, turn, "ahead", things)
        many = {thing: len([lot for lot in listed(table.rows) if lot[person] == thing and all(
            lot[who] == own for who, own in held.items())]) for thing in some}
        found += [(standing, person, one, other) for one in some for other in some if many[one] > many[other]]
        waiting += [things + (thing,) for thing in some]
    return found


class EvenTest(PlainTest):

    def test_is_even_and_uneven(self):
        for table, turn in drawn():
            for custom in CUSTOMS:
                right = is_plain_even(table, turn, custom)
                self.assert_flag(right, is_even(table, turn, custom), table.rows, turn, custom)
                found = uneven(table, turn, custom)
                self.assertIs(found is None, right)
                if found is not None:
                    self.check_uneven(table, turn, custom, found)
                self.assertEqual(uneven(table, turn, custom), found)

    def check_uneven(self, table, turn, custom, found):
        known = plain_chances(table.rows, turn, custom)
        self.assertIs(found.__class__, tuple)
        self.assertEqual(len(found), 2)
        self.assertGreater(known[found[0]], known[found[1]])
        self.assert_flag(True, is_uneven(table, turn, custom, found))
        self.assert_flag(False, is_uneven(table, turn, custom, found[::-1]))

    def test_is_uneven(self):
        for table, turn in drawn()[::11]:
            for custom in CUSTOMS:
                known = plain_chances(table.rows, turn, custom)
                for one, other in itertools.product(known, repeat=2):
                    right = known[one] > known[other]
                    self.assert_flag(right, is_uneven(table, turn, custom, (one, other)), table.rows, turn, one, other)

    def test_fork(self):
        for table, turn in drawn():
            found = fork(table, turn)
            self.assertIs(found is None, is_plain_even(table, turn, "ahead"), (table.rows, turn))
            forks = plain_forks(table, turn)
            self.assertEqual(found is None, forks == [])
            if found is not None:
                self.assertIn(found, forks)
                self.assertIs(found.__class__, tuple)
                self.assert_flag(True, is_fork(table, turn, found))
            self.assertEqual(fork(table, turn), found)

    def test_is_fork(self):
        tables = with_dealing(all_tables(1) + all_tables(2) + all_tables(3)[::41]) + [W, IDLE]
        for table in tables:
            for turn in turns(table.size)[::2]:
                forks = plain_forks(table, turn)
                for standing in itertools.product([None, *range(table.size)], repeat=table.size):
                    for person, one, other in itertools.product(range(table.size), repeat=3):
                        thing = (standing, person, one, other)
                        self.assert_flag(thing in forks, is_fork(table, turn, thing), table.rows, turn, thing)


class AlwaysTest(PlainTest):

    def tables(self):
        return with_dealing(all_tables(1) + all_tables(2) + all_tables(3) + some_tables(4, 40) + special())

    def test_always_even_and_tilted(self):
        for table in self.tables():
            for custom in ALWAYS:
                right = all(is_plain_even(table, turn, custom) for turn in turns(table.size))
                self.assert_flag(right, always_even(table, custom), table.rows, custom)
                self.assertEqual(tilted(table, custom) is None, right, (table.rows, custom))
                if not right:
                    self.check_tilted(table, custom, tilted(table, custom))

    def check_tilted(self, table, custom, found):
        self.assertIs(found.__class__, tuple)
        turn, one, other = found
        known = plain_chances(table.rows, turn, custom)
        self.assertGreater(known[one], known[other], (table.rows, custom, found))
        self.assert_flag(True, is_tilted(table, custom, found))
        self.assert_flag(False, is_tilted(table, custom, (turn, other, one)))
        self.assertEqual(tilted(table, custom), found)

    def test_the_main_fact_in_greater_tables(self):
        tables = some_tables(5, 60) + some_tables(7, 40) + some_tables(9, 24) + some_tables(12, 16)
        tables += [shuffled(ring(size), seed) for size in range(3, 13) for seed in range(3)] + [full(12), names(12)]
        tables += [beside(table, other) for table, other in itertools.permutations(special(), 2)][::5]
        for table in tables:
            try:
                kinds = piece_kinds(table)
            except ValueError:
                continue
            self.check_fact(table, "ahead", "other" not in kinds)
            rows = [set(row) for row in table.rows]
            whole = all(not row & set(things) or set(things) <= row for _, things in pieces(table) for row in rows)
            self.check_fact(table, "anew", set(kinds) == {"full"} and whole)

    def check_fact(self, table, custom, right):
        self.assert_flag(right, always_even(table, custom), table.rows, custom)
        found = tilted(table, custom)
        self.assertEqual(found is None, right, (table.rows, custom))
        if found is not None:
            self.assert_flag(True, is_tilted(table, custom, found), table.rows, custom)
            self.assert_flag(True, is_uneven(table, found[0], custom, found[1:]), table.rows, custom)

    def test_is_tilted(self):
        for table in (W, IDLE, ring(3), full(2)):
            for custom in ALWAYS:
                for turn in turns(table.size):
                    known = plain_chances(table.rows, turn, custom)
                    for one, other in itertools.product(known, repeat=2):
                        right = known[one] > known[other]
                        self.assert_flag(right, is_tilted(table, custom, (turn, one, other)), table.rows, turn)

    def test_great_tables(self):
        table = great_table()
        self.assert_flag(False, always_even(table, "ahead"))
        self.assert_flag(True, is_tilted(table, "ahead", tilted(table, "ahead")))
        self.assert_flag(True, is_tilted(table, "anew", tilted(table, "anew")))
        table = shuffled(with_tie(beside(beside(full(12), ring(12)), beside(ring(12), full(4))), 0, 39))
        self.assert_flag(True, always_even(table, "ahead"))
        self.assertIs(tilted(table, "ahead"), None)
        self.assertIs(fork(table, tuple(range(40))), None)
        self.assert_flag(True, is_even(table, tuple(range(40)), "ahead"))
        self.assert_flag(False, always_even(table, "anew"))
        self.assert_flag(True, is_tilted(table, "anew", tilted(table, "anew")))
        table = beside(beside(full(12), full(12)), beside(full(12), full(4)))
        for thing in range(12, 24):
            table = with_tie(table, 0, thing)
        for custom in ALWAYS:
            self.assert_flag(True, always_even(table, custom))
            self.assertIs(tilted(table, custom), None)
        table = without_tie(table, 0, 15)
        self.assert_flag(True, always_even(table, "ahead"))
        self.assert_flag(False, always_even(table, "anew"))
        self.assert_flag(True, is_tilted(table, "anew", tilted(table, "anew")))


class EdgesTest(PlainTest):

    def test_examples(self):
        self.assert_flag(True, always_even(names(3), "ahead"))
        self.assert_flag(False, always_even(names(4), "ahead"))
        self.assert_flag(False, always_even(names(3), "anew"))
        self.assert_flag(True, is_even(W, (0, 1, 2), "ahead"))
        self.assert_flag(True, is_fork(W, TURN, (NOBODY, 1, 0, 2)))
        self.assertIs(fork(W, (0, 1, 2)), None)
        self.assertIs(uneven(W, (0, 1, 2), "ahead"), None)
        self.assert_flag(True, is_even(W, (0, 1, 2), "strict"))

    def test_one_person_alone(self):
        for custom in CUSTOMS:
            self.assert_flag(True, is_even(full(1), (0,), custom))
            self.assertIs(uneven(full(1), (0,), custom), None)
            self.assert_flag(False, is_uneven(full(1), (0,), custom, ((0,), (0,))))
        self.assertIs(fork(full(1), (0,)), None)
        for custom in ALWAYS:
            self.assert_flag(True, always_even(full(1), custom))
            self.assertIs(tilted(full(1), custom), None)
            self.assert_flag(False, is_tilted(full(1), custom, ((0,), (0,), (0,))))

    def test_many_people(self):
        table = beside(beside(names(4), ring(5)), beside(W, full(12)))
        turn = tuple(range(24))[::-1]
        self.assert_flag(False, is_even(table, turn, "ahead"))
        self.assert_flag(True, is_uneven(table, turn, "ahead", uneven(table, turn, "ahead")))
        self.assert_flag(True, is_fork(table, turn, fork(table, turn)))
        self.assert_flag(True, is_even(beside(full(12), ring(12)), turn, "ahead"))
        self.assert_flag(False, is_even(beside(full(12), ring(12)), turn, "anew"))
        self.assertIs(fork(beside(full(12), ring(12)), turn), None)

    def test_arguments_stay(self):
        table, turn = copy.deepcopy(W), (1, 0, 2)
        for custom in CUSTOMS:
            uneven(table, turn, custom)
        fork(table, turn)
        tilted(table, "anew")
        self.assertEqual((table, turn), (W, (1, 0, 2)))


class WrongThingsTest(PlainTest):

    def test_no_turn(self):
        for turn in odd_turns(3):
            for table in (W, STUCK):
                for custom in ("ahead", "all", None):
                    self.assert_raises("NoTurn", {}, is_even, table, turn, custom)
                    self.assert_raises("NoTurn", {}, uneven, table, turn, custom)
                    self.assert_raises("NoTurn", {}, is_uneven, table, turn, custom, None)
                self.assert_raises("NoTurn", {}, fork, table, turn)
                self.assert_raises("NoTurn", {}, is_fork, table, turn, None)

    def test_no_custom(self):
        for custom in odd_customs():
            for table in (W, STUCK):
                self.assert_raises("NoCustom", {}, is_even, table, TURN, custom)
                self.assert_raises("NoCustom", {}, uneven, table, TURN, custom)
                self.assert_raises("NoCustom", {}, is_uneven, table, TURN, custom, None)
        for custom in odd_customs() + ["near", "strict"]:
            for table in (W, STUCK):
                self.assert_raises("NoCustom", {}, always_even, table, custom)
                self.assert_raises("NoCustom", {}, tilted, table, custom)
                self.assert_raises("NoCustom", {}, is_tilted, table, custom, None)

    def test_stuck(self):
        for table in (STUCK, Table(((), (0, 1, 2), (0, 1, 2)))):
            for custom in CUSTOMS:
                self.assert_raises("Stuck", {}, is_even, table, TURN, custom)
                self.assert_raises("Stuck", {}, uneven, table, TURN, custom)
                self.assert_raises("Stuck", {}, is_uneven, table, TURN, custom, None)
            self.assert_raises("Stuck", {}, fork, table, TURN)
            self.assert_raises("Stuck", {}, is_fork, table, TURN, None)
            for custom in ALWAYS:
                self.assert_raises("Stuck", {}, always_even, table, custom)
                self.assert_raises("Stuck", {}, tilted, table, custom)
                self.assert_raises("Stuck", {}, is_tilted, table, custom, None)

    def test_no_pair(self):
        one, other = uneven(W, TURN, "ahead")
        wrong = [(one,), (other,), (one, other, one), [one, other], (list(one), other), (one, list(other)), (other, one),
                 (one, one), (one, None), (None, other), (one, (0, 1, 2)), ((0, 1, 2), other), (one, other + (3,)),
                 (one[:2], other), {one: other}, one, other, (one, (True, 0, 2)), (one, "102"), (0, 1), one + other]
        for thing in wrong + odd_numbers() + odd_tuples((one, other)):
            if thing != (one, other):
                self.assert_flag(False, is_uneven(W, TURN, "ahead", thing), thing)
        self.assert_flag(True, is_uneven(W, TURN, "ahead", (one, other)))

    def test_no_fork(self):
        self.assert_flag(True, is_fork(W, TURN, (NOBODY, 1, 0, 1)))
        right = (NOBODY, 1, 0, 2)
        wrong = [right[:3], right + (0,), list(right), (list(NOBODY), 1, 0, 2), (NOBODY[:2], 1, 0, 2),
                 (NOBODY, 0, 1, 2), (NOBODY, 2, 0, 2), (NOBODY, True, 0, 2), (NOBODY, 1, False, 2), (NOBODY, 1, 2, 0),
                 (NOBODY, 1, 0, 0), (NOBODY, 1, 0, 3), (NOBODY, 1, -1, 2), (NOBODY, 1, None, 2), (NOBODY, 1, 0, "2"),
                 (NOBODY, None, 0, 2), (NOBODY, 3, 0, 2), (NOBODY, -2, 0, 2), (NOBODY, (1,), 0, 2), (NOBODY, 1, [0], 2),
                 ((1, None, None), 1, 0, 2), ((None, 0, None), 1, 0, 2), ((None, 0, None), 0, 1, 2), (None, 1, 0, 2),
                 ((1, 0, 2), 1, 0, 2), ((None, None, 0), 1, 1, 2), ({}, 1, 0, 2), (right,), ("", 1, 0, 2)]
        for thing in wrong + odd_numbers() + odd_tuples(right):
            self.assert_flag(False, is_fork(W, TURN, thing), thing)
        self.assert_flag(False, is_fork(W, (0, 1, 2), right))
        for thing in odd_tuples(NOBODY) + odd_numbers():
            self.assert_flag(False, is_fork(W, TURN, (thing, 1, 0, 2)), thing)
        for thing in odd_numbers():
            for place in (1, 2, 3):
                changed = right[:place] + (thing,) + right[place + 1:]
                self.assert_flag(False, is_fork(W, TURN, changed), changed)

    def test_not_tilted(self):
        for custom in ALWAYS:
            turn, one, other = right = tilted(W, custom)
            wrong = [right[:2], right + (0,), list(right), (list(turn), one, other), (turn, list(one), other),
                     (turn, one, one), (turn, other, one), (turn, one), (turn[:2], one, other), (turn, one[:2], other),
                     (turn, one, (0, 1, 2)), (turn + (3,), one, other), (None, one, other), (turn, None, other),
                     ((0, 0, 1), one, other), ((False, True, 2), one, other), {turn: one}, (turn, (one, other)), (right,)]
            for thing in wrong + odd_numbers() + odd_tuples(right):
                self.assert_flag(False, is_tilted(W, custom, thing), thing)
            for thing in odd_turns(3):
                self.assert_flag(False, is_tilted(W, custom, (thing, one, other)), thing)


if __name__ == "__main__":
    unittest.main()
