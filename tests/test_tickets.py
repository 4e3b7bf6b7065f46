"""Promises 10.1, 10.2: fixed tickets, twists, and the fourth fact."""

import copy
import fractions
import itertools
import random
import unittest

from fullorring.chances import chance
from fullorring.even import is_even
from fullorring.standings import many_after
from fullorring.tables import Table, beside, full, names, ring, ties, with_tie
from fullorring.tickets import even_tickets, is_even_tickets, is_twist, ticket_chance, twist
from plain import (
    STUCK, W, PlainTest, all_tables, choices, great_table, listed, odd_numbers, odd_tuples, odd_turns, pair, shuffled,
    some_tables, turns, with_dealing,
)

TURN = (1, 0, 2)
IDLE = Table(((0,), (0, 1, 2), (1, 2)))
W_TICKETS = {(0, 1): 1, (0, 2): 1, (1, 0): 2, (1, 1): 1, (1, 2): 1, (2, 0): 1, (2, 1): 1, (2, 2): 1}


def drawn():
    found = [(table, turn) for size in (1, 2) for table in all_tables(size) for turn in turns(size)]
    found += [(table, turn) for table in all_tables(3)[::2] for turn in turns(3)]
    found += [(table, turn) for at, table in enumerate(some_tables(4, 80)) for turn in turns(4)[at % 6::6]]
    found += [(table, turn) for at, table in enumerate(some_tables(5, 24)) for turn in turns(5)[at % 60::60]]
    found += [(table, turn) for table in (W, IDLE, names(4), ring(4), beside(names(2), W)) for turn in turns(table.size)[::5]]
    return [(table, turn) for table, turn in found if listed(table.rows)]


def used(table):
    """The ties that are not idle."""
    return sorted({(person, lot[person]) for lot in listed(table.rows) for person in range(table.size)})


def plain_chance(table, turn, tickets, lot):
    """The chance of a dealing, as the document tells it."""
    share = fractions.Fraction(1)
    for at, person in enumerate(turn):
        some = choices(table.rows, turn, "ahead", tuple(lot[who] for who in turn[:at]))
        share *= fractions.Fraction(tickets[(person, lot[person])], sum(tickets[(person, thing)] for thing in some))
    return share


def is_plain_even(table, turn, tickets):
    return len({plain_chance(table, turn, tickets, lot) for lot in listed(table.rows)}) == 1


def came(table, turn, person):
    """The dict from the standings at which the person comes up, looking ahead, to the open things."""
    found = {}
    for lot in listed(table.rows):
        first = turn[:turn.index(person)]
        standing = tuple(lot[who] if who in first else None for who in range(table.size))
        found[standing] = choices(table.rows, turn, "ahead", tuple(lot[who] for who in first))
    return found


def is_plain_twist(table, turn, person, steps):
    standings = came(table, turn, person)
    product = fractions.Fraction(1)
    for at, (standing, one, other) in enumerate(steps):
        if standing not in standings or one == other or steps[at - 1][2] != one:
            return False
        if one not in standings[standing] or other not in standings[standing]:
            return False
        many = [many_after(table, standing[:person] + (thing,) + standing[person + 1:]) for thing in (one, other)]
        product *= fractions.Fraction(*many)
    return len(steps) > 0 and product != 1


class TicketChanceTest(PlainTest):

    def test_ticket_chance(self):
        numbers = random.Random(8)
        for table, turn in drawn():
            tickets = {tie: numbers.choice((1, 1, 2, 3, 7, 10 ** 59)) for tie in used(table)}
            total = fractions.Fraction(0)
            for lot in listed(table.rows):
                told = ticket_chance(table, turn, tickets, lot)
                self.assertEqual(told, pair(plain_chance(table, turn, tickets, lot)), (table.rows, turn, tickets, lot))
                total += fractions.Fraction(*told)
            self.assertEqual(total, 1)

    def test_where_all_tickets_are_alike(self):
        for table, turn in drawn()[::3]:
            for lot in listed(table.rows):
                for number in (1, 6):
                    tickets = {tie: number for tie in used(table)}
                    self.assertEqual(ticket_chance(table, turn, tickets, lot), chance(table, turn, "ahead", lot))

    def test_many_people(self):
        table = beside(full(12), ring(12))
        tickets = {(person, thing): 1 + thing for person, thing in ties(table)}
        told = ticket_chance(table, tuple(range(24)), tickets, tuple(range(24)))
        share = fractions.Fraction(13, 27)
        for at in range(12):
            share *= fractions.Fraction(at + 1, sum(range(at + 1, 13)))
        self.assertEqual(told, pair(share))

    def test_without_a_dealing(self):
        self.assert_raises("NoDealing", {}, ticket_chance, STUCK, TURN, {}, (0, 1, 2))
        self.assert_raises("NoTickets", {}, ticket_chance, STUCK, TURN, {(2, 1): 1}, (0, 1, 2))


class EvenTicketsTest(PlainTest):

    def test_the_fourth_fact(self):
        for table, turn in drawn():
            found, twisted = even_tickets(table, turn), twist(table, turn)
            self.assertEqual(found is None, twisted is not None, (table.rows, turn))
            if found is None:
                self.assertIs(twisted.__class__, tuple)
                self.assertTrue(is_plain_twist(table, turn, *twisted), (table.rows, turn, twisted))
                self.assert_flag(True, is_twist(table, turn, twisted), table.rows, turn)
            else:
                self.assertEqual(sorted(found), used(table))
                self.assertTrue(is_plain_even(table, turn, found), (table.rows, turn, found))
                self.assert_flag(True, is_even_tickets(table, turn, found), table.rows, turn)
                ones = {tie: 1 for tie in found}
                self.assert_flag(is_even(table, turn, "ahead"), is_even_tickets(table, turn, ones), table.rows, turn)
            self.assertEqual((even_tickets(table, turn), twist(table, turn)), (found, twisted))

    def test_they_are_the_least(self):
        seen = 0
        for table, turn in drawn():
            found = even_tickets(table, turn)
            if found is None or set(found.values()) == {1} or table.size > 4:
                continue
            seen += 1
            if seen % 3 == 0:
                self.check_least(table, turn, found)
        self.assertGreater(seen, 20)

    def check_least(self, table, turn, found):
        for person in range(table.size):
            own = [tie for tie in found if tie[0] == person]
            most = max(found[tie] for tie in own)
            for numbers in itertools.product(range(1, most + 1), repeat=len(own)):
                changed = {**found, **dict(zip(own, numbers))}
                right = is_plain_even(table, turn, changed)
                self.assert_flag(right, is_even_tickets(table, turn, changed), table.rows, turn, changed)
                if right:
                    self.assertTrue(all(changed[tie] >= found[tie] for tie in own), (table.rows, turn, changed, found))

    def test_any_that_are_even(self):
        self.assert_flag(True, is_even_tickets(W, TURN, W_TICKETS))
        for factor in (2, 7, 10 ** 58):
            more = {tie: factor * number if tie[0] == 1 else number for tie, number in W_TICKETS.items()}
            self.assert_flag(True, is_even_tickets(W, TURN, more))
        self.assert_flag(True, is_even_tickets(W, TURN, {**W_TICKETS, (2, 0): 99, (2, 1): 5}))
        self.assert_flag(False, is_even_tickets(W, TURN, {**W_TICKETS, (0, 1): 2}))
        self.assert_flag(False, is_even_tickets(W, (0, 1, 2), W_TICKETS))

    def test_examples(self):
        self.assertEqual(even_tickets(W, TURN), W_TICKETS)
        self.assertEqual(even_tickets(full(1), (0,)), {(0, 0): 1})
        self.assertIs(twist(full(1), (0,)), None)
        self.assertEqual(even_tickets(IDLE, (1, 0, 2)), {(0, 0): 1, (1, 1): 1, (1, 2): 1, (2, 1): 1, (2, 2): 1})
        self.assertEqual(even_tickets(full(3), (2, 0, 1)), {tie: 1 for tie in ties(full(3))})
        self.assertEqual(even_tickets(ring(5), (2, 0, 4, 1, 3)), {tie: 1 for tie in ties(ring(5))})
        for turn in turns(4):
            self.assertEqual(even_tickets(names(4), turn) is None, twist(names(4), turn) is not None)

    def test_nine_people_and_ten(self):
        for table in (full(9), ring(9), names(9), beside(names(6), W), shuffled(beside(beside(W, W), W))):
            turn = (3, 1, 4, 0, 5, 8, 2, 6, 7)
            found, twisted = even_tickets(table, turn), twist(table, turn)
            self.assertEqual(found is None, twisted is not None)
            if found is None:
                self.assert_flag(True, is_twist(table, turn, twisted))
            else:
                self.assert_flag(True, is_even_tickets(table, turn, found))
        for table in (full(10), names(12), great_table(), beside(full(9), full(1))):
            turn = tuple(range(table.size))
            for function in (even_tickets, twist):
                self.assert_raises("TooMany", {"most": 9}, function, table, turn)
                self.assert_raises("NoTurn", {}, function, table, turn[1:])
            for function in (is_even_tickets, is_twist):
                for thing in ({}, None, (0, ())):
                    self.assert_raises("TooMany", {"most": 9}, function, table, turn, thing)
                    self.assert_raises("NoTurn", {}, function, table, turn[1:], thing)
        stuck = beside(STUCK, full(9))
        for function in (even_tickets, twist):
            self.assert_raises("Stuck", {}, function, stuck, tuple(range(12)))
        for function in (is_even_tickets, is_twist):
            self.assert_raises("Stuck", {}, function, stuck, tuple(range(12)), None)

    def test_dicts_are_new(self):
        for table in (W, full(1), ring(3), IDLE):
            self.assert_new(even_tickets, table, tuple(range(table.size)))


class TwistTest(PlainTest):

    def twisted(self):
        """Tables and turns with twists."""
        found = [(table, turn) for table, turn in drawn() if twist(table, turn) is not None]
        self.assertGreater(len(found), 20)
        return found

    def test_there_is_none_shorter_than_two(self):
        for table, turn in self.twisted():
            person, steps = twist(table, turn)
            self.assertIs(steps.__class__, tuple)
            self.assertGreaterEqual(len(steps), 2)
            for at in range(len(steps)):
                self.assert_flag(False, is_twist(table, turn, (person, steps[:at])), steps)
                # It may begin with any step, and go round and round.
                self.assert_flag(True, is_twist(table, turn, (person, steps[at:] + steps[:at])), steps)
            self.assert_flag(True, is_twist(table, turn, (person, steps * 3)))
            back = tuple((standing, other, one) for standing, one, other in steps[::-1])
            self.assert_flag(True, is_twist(table, turn, (person, back)))
            self.assert_flag(False, is_twist(table, turn, (person, steps + back)))
            for who in range(table.size):
                self.assert_flag(who == person, is_twist(table, turn, (who, steps)))

    def test_all_of_two_and_three_steps(self):
        tables = [(table, turn) for table, turn in self.twisted() if table.size <= 4][:4]
        for table, turn in tables + [(W, TURN), (names(4), (2, 0, 3, 1))]:
            for person in turn:
                some = [(standing, one, other) for standing in itertools.chain(came(table, turn, person), [(0,) * table.size])
                        for one in range(table.size) for other in range(table.size)]
                chance_of = random.Random(person)
                for _ in range(150):
                    steps = self.some_steps(chance_of, some)
                    right = is_plain_twist(table, turn, person, steps)
                    self.assert_flag(right, is_twist(table, turn, (person, steps)), table.rows, turn, person, steps)

    def some_steps(self, chance_of, some):
        """Steps that mostly close."""
        steps = [chance_of.choice(some)]
        for _ in range(chance_of.randrange(3)):
            steps.append(chance_of.choice([one for one in some if one[1] == steps[-1][2]]))
        steps.append(chance_of.choice([one for one in some if one[1:] == (steps[-1][2], steps[0][1])]))
        return tuple(steps)

    def test_wrong_twists(self):
        for table, turn in self.twisted()[::9]:
            person, steps = right = twist(table, turn)
            standing, one, other = steps[0]
            rest = steps[1:]
            nobody = (None,) * table.size
            firsts = [
                (standing, other, one), (standing, one, one), (standing, one, table.size), (standing, one, -1), (standing, one),
                (standing, one, None), (standing, None, other), (standing, one, str(other)), (list(standing), one, other),
                (standing, one, other, 0), [standing, one, other], (standing[1:], one, other), (None, one, other), (), None,
                (standing + (None,), one, other), (standing, (one,), other), ((0,) * table.size, one, other), "", 0, full(1),
                (listed(table.rows)[0], one, other), (standing, one, [other]), {0: standing}, (standing, one, full(2)),
            ] + ([(nobody, one, other)] if turn[0] != person else []) + odd_numbers() + odd_tuples(steps[0])
            for first in firsts:
                self.assert_flag(False, is_twist(table, turn, (person, (first,) + rest)), first)
            wrong = [right[:1], right + (0,), list(right), (person, list(steps)), (person, ()), (person, []), (person, {}),
                     (None, steps), (table.size, steps), (-1, steps), ((person,), steps), (str(person), steps), steps, person,
                     (person, steps[0]), (person, None), right[::-1], {person: steps}, (right,), (person, dict(enumerate(steps)))]
            for thing in wrong + odd_numbers() + [(person, one) for one in odd_numbers()]:
                self.assert_flag(False, is_twist(table, turn, thing), thing)
            if person in (0, 1):
                self.assert_flag(False, is_twist(table, turn, (bool(person), steps)))
            self.assert_flag(False, is_twist(table, turn, (person, steps * 500 + steps[:1])))
            self.assert_flag(True, is_twist(table, turn, (person, steps * 500)))

    def test_flags_are_no_things(self):
        found = 0
        for table, turn in self.twisted():
            person, steps = twist(table, turn)
            for place in (1, 2):
                if steps[0][place] in (0, 1):
                    found += 1
                    first = steps[0][:place] + (bool(steps[0][place]),) + steps[0][place + 1:]
                    self.assert_flag(False, is_twist(table, turn, (person, (first,) + steps[1:])))
        self.assertGreater(found, 5)

    def test_ways_that_meet(self):
        """Tables in which the way round goes over more than the link that does not fit and one more."""
        for rows, turn in [
            (((0, 1, 3, 4), (0, 1, 2, 3), (1, 2, 3, 4), (0, 1, 2, 3, 4), (1, 2, 3, 4)), (4, 3, 2, 1, 0)),
            (((0, 1, 2, 4), (2, 3, 4), (1, 2, 3), (1, 2, 3, 4), (0, 1, 2, 3)), (4, 3, 2, 1, 0)),
            (((0, 1, 2, 4), (0, 1, 2, 3), (0, 1, 2, 3, 4), (0, 1, 2, 3, 4), (0, 1, 2, 3, 4)), (4, 3, 2, 1, 0)),
        ]:
            person, steps = twist(Table(rows), turn)
            self.assertTrue(is_plain_twist(Table(rows), turn, person, steps), (rows, steps))
            self.assertEqual(len({one for _, one, _ in steps}), len(steps))
            self.assert_flag(True, is_twist(Table(rows), turn, (person, steps)))

    def test_standings_that_are_not_sound(self):
        for standing in ((None, 0, None), (None, 1, None), (None, 2, None)):
            for one, other in ((0, 1), (1, 2), (0, 2), (2, 0)):
                steps = ((standing, one, other), (standing, other, one))
                self.assert_flag(False, is_twist(IDLE, TURN, (0, steps)))
                self.assert_flag(False, is_twist(IDLE, TURN, (2, steps)))

    def test_where_there_are_tickets_there_is_none(self):
        steps = (((None, None, None), 0, 1), ((None, None, None), 1, 0))
        self.assert_flag(False, is_twist(W, TURN, (1, steps)))
        self.assert_flag(False, is_twist(full(2), (0, 1), (0, (((None, None), 0, 1), ((None, None), 1, 0)))))


class WrongThingsTest(PlainTest):

    def test_no_turn(self):
        for turn in odd_turns(3):
            for table in (W, STUCK):
                for tickets in (W_TICKETS, {}, None):
                    self.assert_raises("NoTurn", {}, ticket_chance, table, turn, tickets, (1, 0, 2))
                    self.assert_raises("NoTurn", {}, ticket_chance, table, turn, tickets, None)
                    self.assert_raises("NoTurn", {}, is_even_tickets, table, turn, tickets)
                    self.assert_raises("NoTurn", {}, is_twist, table, turn, tickets)
                self.assert_raises("NoTurn", {}, even_tickets, table, turn)
                self.assert_raises("NoTurn", {}, twist, table, turn)

    def test_no_tickets(self):
        wrong = [{}, list(W_TICKETS.items()), tuple(W_TICKETS), [W_TICKETS], (W_TICKETS,), {0: 1}]
        for tie in W_TICKETS:
            less = {one: number for one, number in W_TICKETS.items() if one != tie}
            wrong += [less, {**less, tie[::-1] + (0,): 1}, {**less, (9, 9): 1}, {**less, str(tie): 1}, {**less, tie[:1]: 1}]
            wrong += [{**less, tie: number} for number in odd_numbers() if number != 10 ** 59]
            wrong += [{**less, tie: 0}, {**less, tie: True}, {**less, tie: (1, 1)}, {**less, tie: -5}]
        wrong += [{**W_TICKETS, more: 1} for more in ((0, 0), (3, 0), (0, 3), (), None, "", 0, (0, 1, 2), ((0,), 1))]
        for thing in wrong + odd_numbers():
            self.assert_raises("NoTickets", {}, ticket_chance, W, TURN, thing, (1, 0, 2))
            self.assert_raises("NoTickets", {}, ticket_chance, W, TURN, thing, None)
            self.assert_flag(False, is_even_tickets(W, TURN, thing), thing)
        # An idle tie has no ticket.
        right = even_tickets(IDLE, TURN)
        self.assert_flag(True, is_even_tickets(IDLE, TURN, right))
        self.assert_flag(False, is_even_tickets(IDLE, TURN, {**right, (1, 0): 1}))
        self.assert_raises("NoTickets", {}, ticket_chance, IDLE, TURN, {**right, (1, 0): 1}, (0, 1, 2))

    def test_no_dealing(self):
        for lot in odd_tuples((1, 0, 2)) + [(0, 1, 2), (1, 0), (1, 0, 0), (1, 0, None), (1, 0, 3)]:
            self.assert_raises("NoDealing", {}, ticket_chance, W, TURN, W_TICKETS, lot)
        self.assert_raises("NoDealing", {}, ticket_chance, IDLE, TURN, even_tickets(IDLE, TURN), (1, 0, 2))

    def test_stuck(self):
        for table in (STUCK, Table(((), (0, 1, 2), (0, 1, 2)))):
            self.assert_raises("Stuck", {}, even_tickets, table, TURN)
            self.assert_raises("Stuck", {}, twist, table, TURN)
            for thing in ({}, None, (0, ())):
                self.assert_raises("Stuck", {}, is_even_tickets, table, TURN, thing)
                self.assert_raises("Stuck", {}, is_twist, table, TURN, thing)

    def test_arguments_stay(self):
        tickets = copy.deepcopy(W_TICKETS)
        ticket_chance(W, TURN, tickets, (1, 0, 2))
        is_even_tickets(W, TURN, tickets)
        self.assertEqual(tickets, W_TICKETS)
        self.assertEqual(len(with_dealing([W, with_tie(STUCK, 1, 1)])), 2)


if __name__ == "__main__":
    unittest.main()
