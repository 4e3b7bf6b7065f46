"""Promises 9.1, 9.2: plans, bars, and the third fact."""

import copy
import functools
import random
import unittest

from fullorring.books import book_even
from fullorring.even import is_even
from fullorring.plans import is_plan, is_plan_bar, people_plan, plan, plan_bar
from fullorring.tables import Table, beside, full, names, ring, with_tie
from plain import (
    STUCK, W, PlainTest, all_tables, great_table, listed, nested, odd_numbers, odd_tuples, shuffled, some_tables, turns,
    with_dealing,
)

IDLE = Table(((0,), (0, 1, 2), (1, 2)))
KINDS = ("person", "thing")
JUDGES = (lambda table: is_plan(table, {}), lambda table: is_plan(table, None),
          lambda table: is_plan_bar(table, {}), lambda table: is_plan_bar(table, None))


def tables():
    found = all_tables(1) + all_tables(2) + all_tables(3) + some_tables(4, 60) + some_tables(5, 20) + some_tables(6, 4)
    found += [W, IDLE, names(4), names(5), ring(4), full(4), beside(names(2), W), beside(ring(3), full(1)), shuffled(W)]
    return with_dealing(found)


def left(standing, kinds=KINDS):
    people = [("person", person) for person, own in enumerate(standing) if own is None]
    things = [("thing", thing) for thing in range(len(standing)) if thing not in standing]
    return [comer for comer in people + things if comer[0] in kinds]


@functools.lru_cache(maxsize=None)
def behind(rows, standing):
    return [lot for lot in listed(rows) if all(own in (None, had) for own, had in zip(standing, lot))]


def plain_choices(table, standing, comer):
    """The dict from what is open to the standing behind it and the number of dealings behind that."""
    return choices_of(table.rows, standing, comer)


@functools.lru_cache(maxsize=None)
def choices_of(rows, standing, comer):
    found = {}
    for choice in range(len(rows)):
        person, thing = (comer[1], choice) if comer[0] == "person" else (choice, comer[1])
        if standing[person] is None and thing not in standing:
            after = standing[:person] + (thing,) + standing[person + 1:]
            if behind(rows, after):
                found[choice] = (after, len(behind(rows, after)))
    return found


def are_alike(choices):
    return len({many for _, many in choices.values()}) == 1


def is_planned(table, kinds=KINDS, standing=None, known=None):
    """Whether there is an even plan from a standing on."""
    known = {} if known is None else known
    standing = (None,) * table.size if standing is None else standing
    if standing not in known:
        known[standing] = None not in standing
        for comer in left(standing, kinds):
            choices = plain_choices(table, standing, comer)
            if are_alike(choices) and all(is_planned(table, kinds, after, known) for after, _ in choices.values()):
                known[standing] = True
    return known[standing]


def is_plain_plan(table, found):
    """Whether a dict from tuples to pairs is an even plan."""
    came = set()
    waiting = [(None,) * table.size]
    while waiting:
        standing = waiting.pop()
        if None not in standing or standing in came:
            continue
        came.add(standing)
        if found.get(standing) not in left(standing):
            return False
        choices = plain_choices(table, standing, found[standing])
        if not are_alike(choices):
            return False
        waiting += [after for after, _ in choices.values()]
    return came == set(found)


def is_plain_bar(table, bar, standing=None):
    standing = (None,) * table.size if standing is None else standing
    if sorted(bar) != sorted(left(standing)) or None not in standing:
        return False
    for comer, (word, one, other) in bar.items():
        choices = plain_choices(table, standing, comer)
        if one not in choices:
            return False
        if word == "unlike" and (other not in choices or choices[one][1] <= choices[other][1]):
            return False
        if word == "then" and not is_plain_bar(table, other, choices[one][0]):
            return False
    return True


class PlanTest(PlainTest):

    def test_the_third_fact(self):
        for table in tables():
            found, bar = plan(table), plan_bar(table)
            right = is_planned(table)
            self.assertEqual((found is not None, bar is None), (right, right), table.rows)
            if right:
                self.assertIs(found.__class__, dict)
                self.assertTrue(is_plain_plan(table, found), table.rows)
                self.assert_flag(True, is_plan(table, found), table.rows)
            else:
                self.assertIs(bar.__class__, dict)
                self.assertTrue(is_plain_bar(table, bar), table.rows)
                self.assert_flag(True, is_plan_bar(table, bar), table.rows)
            self.assertEqual((plan(table), plan_bar(table)), (found, bar))

    def test_people_plan(self):
        for table in tables():
            found = people_plan(table)
            self.assertEqual(found is not None, is_planned(table, ("person",)), table.rows)
            if found is not None:
                self.assertTrue(is_plain_plan(table, found))
                self.assert_flag(True, is_plan(table, found))
                self.assertEqual({kind for kind, _ in found.values()}, {"person"})

    def test_some_choices_can_be_planned_and_others_not(self):
        table = Table(((0, 2, 3), (0, 1, 2, 3, 4, 5), (3, 4), (0, 1, 4), (1, 2, 3, 4), (1, 3, 4, 5)))
        self.assertFalse(is_planned(table))
        self.assertTrue(is_planned(table, KINDS, (None, None, 3, None, None, None)))
        self.assertTrue(is_plain_bar(table, plan_bar(table)))
        self.assert_flag(True, is_plan_bar(table, plan_bar(table)))

    def test_a_turn_that_is_even_is_a_plan(self):
        for table in with_dealing(all_tables(3)[::9] + some_tables(4, 30)):
            for turn in turns(table.size)[::5]:
                found = {}
                waiting = [(None,) * table.size]
                while waiting:
                    standing = waiting.pop()
                    if None in standing:
                        found[standing] = ("person", [who for who in turn if standing[who] is None][0])
                        waiting += [one for one, _ in plain_choices(table, standing, found[standing]).values()]
                self.assert_flag(is_even(table, turn, "ahead"), is_plan(table, found), table.rows, turn)

    def test_examples(self):
        self.assertIs(plan(names(5)), None)
        self.assertIs(plan(names(6)), None)
        self.assert_flag(True, is_plan_bar(names(5), plan_bar(names(5))))
        self.assert_flag(True, is_plan_bar(names(6), plan_bar(names(6))))
        self.assert_flag(True, is_plan(names(4), plan(names(4))))
        self.assertIs(plan_bar(names(4)), None)
        self.assert_flag(True, book_even(names(4), ("named",)))
        self.assertIn(plan(full(1)), [{(None,): ("person", 0)}, {(None,): ("thing", 0)}])
        self.assertEqual(people_plan(full(1)), {(None,): ("person", 0)})
        self.assertIs(plan_bar(full(1)), None)

    def test_six_people_and_seven(self):
        for table in (full(6), ring(6), beside(ring(3), ring(3)), beside(names(4), full(2)), with_tie(ring(6), 0, 3)):
            found = plan(table)
            if found is None:
                self.assertTrue(is_plain_bar(table, plan_bar(table)))
                self.assert_flag(True, is_plan_bar(table, plan_bar(table)))
            else:
                self.assert_flag(True, is_plan(table, found))
        for table in (full(7), ring(7), names(12), great_table(), beside(full(6), full(1))):
            for function in (plan, people_plan, plan_bar) + JUDGES:
                self.assert_raises("TooMany", {"most": 6}, function, table)
        for table in (STUCK, names(1), Table(((), (0, 1))), beside(STUCK, full(4)), beside(STUCK, full(12))):
            for function in (plan, people_plan, plan_bar) + JUDGES:
                self.assert_raises("Stuck", {}, function, table)

    def test_answers_are_new(self):
        for table in (full(1), W, names(4), full(3), ring(4)):
            self.assert_new(plan, table)
        self.assert_new(people_plan, full(3))
        table = names(5)
        self.assert_new(plan_bar, table)
        bars = [plan_bar(table)]
        seen = []
        while bars:
            bar = bars.pop()
            self.assertNotIn(id(bar), [id(one) for one in seen])
            seen.append(bar)
            bars += [entry[2] for entry in bar.values() if entry[0] == "then"]
        for bar in seen:
            bar.clear()
        self.assert_flag(True, is_plan_bar(table, plan_bar(table)))


class JudgePlansTest(PlainTest):

    def test_all_plans_of_two(self):
        comers = [("person", 0), ("person", 1), ("thing", 0), ("thing", 1), None]
        standings = [(None, None), (0, None), (1, None), (None, 0), (None, 1), (0, 1), (1, 0)]
        chance = random.Random(4)
        for table in with_dealing(all_tables(2)):
            for _ in range(1500):
                found = {one: chance.choice(comers[:4]) for one in standings if chance.random() < 0.5}
                self.assert_flag(is_plain_plan(table, found), is_plan(table, found), table.rows, found)
            for first in comers[:4]:
                for second in comers[:4]:
                    for third in comers[:4]:
                        after = [one for one, _ in plain_choices(table, (None, None), first).values()]
                        found = dict(zip(after, (second, third)), **{})
                        found[(None, None)] = first
                        self.assert_flag(is_plain_plan(table, found), is_plan(table, found), table.rows, found)

    def test_changed_plans(self):
        for table in (W, names(4), full(3), IDLE, ring(3)):
            right = plan(table)
            for standing in right:
                less = {one: right[one] for one in right if one != standing}
                self.assert_flag(False, is_plan(table, less), standing)
                for comer in [(kind, number) for kind in KINDS for number in range(table.size)]:
                    changed = {**right, standing: comer}
                    self.assert_flag(is_plain_plan(table, changed), is_plan(table, changed), standing, comer)
                for thing in odd_numbers() + odd_tuples(("person", 0)) + [
                    ("person",), ("person", table.size), ("person", -1), ("person", True), ["person", 0], ("people", 0),
                    ("person", 0, 0), ("row", ()), (b"person", 0), ("person", "0"), ("person", None), ("thing", [0]),
                ]:
                    self.assert_flag(False, is_plan(table, {**right, standing: thing}), standing, thing)
                self.assert_flag(False, is_plan(table, {**less, standing[1:]: right[standing]}), standing)
            for more in (tuple(listed(table.rows)[0]), (), None, 0, "", (None,), (0,) * table.size, (9,) + (None,) * 2):
                self.assert_flag(False, is_plan(table, {**right, more: ("person", 0)}), more)

    def test_no_plans(self):
        right = plan(W)
        before = copy.deepcopy(right)
        for thing in odd_numbers() + [list(right.items()), tuple(right), [right], (right,), {}, plan_bar(names(5))]:
            self.assert_flag(False, is_plan(W, thing), thing)
        self.assert_flag(True, is_plan(W, right))
        self.assertEqual(right, before)
        self.assert_flag(False, is_plan(names(3), right))
        self.assert_flag(False, is_plan(names(5), plan(names(4))))


class JudgeBarsTest(PlainTest):

    def bars(self):
        """Some tables with bars for them."""
        found = [table for table in some_tables(4, 60) + some_tables(5, 12) if listed(table.rows)]
        found = [table for table in found if plan_bar(table) is not None]
        return [(table, plan_bar(table)) for table in found[:2] + found[-1:] + [names(5)]]

    def test_changed_bars(self):
        seen = 0
        for table, bar in self.bars():
            for comer, entry in bar.items():
                for one in range(-1, table.size + 1):
                    for other in range(-1, table.size + 1):
                        seen += 1
                        changed = {**bar, comer: ("unlike", one, other)}
                        self.assert_flag(is_plain_bar(table, changed), is_plan_bar(table, changed), table.rows, changed)
                    for inner in ({}, bar, entry[2], None, 0):
                        changed = {**bar, comer: ("then", one, inner)}
                        right = isinstance(inner, dict) and is_plain_bar(table, changed)
                        self.assert_flag(right, is_plan_bar(table, changed), table.rows, changed)
                less = {one: bar[one] for one in bar if one != comer}
                self.assert_flag(False, is_plan_bar(table, less))
                self.assert_flag(False, is_plan_bar(table, {**less, ("person", 9): entry}))
                self.assert_flag(False, is_plan_bar(table, {**bar, ("thing", 9): entry}))
                self.check_wrong_entries(table, bar, comer, entry)
        self.assertGreater(seen, 800)

    def check_wrong_entries(self, table, bar, comer, entry):
        wrong = [list(entry), entry[:2], entry + (0,), ("Unlike",) + entry[1:], ("",) + entry[1:], (None,) + entry[1:],
                 (b"then",) + entry[1:], entry[0], {}, None, (entry,), (entry[0], str(entry[1]), entry[2]),
                 (entry[0], [entry[1]], entry[2]), (entry[0], None, entry[2]), (entry[0], full(1), entry[2])]
        for thing in wrong + odd_numbers():
            self.assert_flag(False, is_plan_bar(table, {**bar, comer: thing}), thing)
        if entry[0] == "unlike":
            for thing in odd_numbers():
                self.assert_flag(False, is_plan_bar(table, {**bar, comer: ("unlike", entry[1], thing)}), thing)
                self.assert_flag(False, is_plan_bar(table, {**bar, comer: ("unlike", thing, entry[2])}), thing)

    def test_flags_are_no_numbers(self):
        found = 0
        for table, bar in self.bars():
            for comer, entry in bar.items():
                for place in (1, 2):
                    if entry[place] in (0, 1) and not isinstance(entry[place], dict):
                        found += 1
                        changed = entry[:place] + (bool(entry[place]),) + entry[place + 1:]
                        self.assert_flag(False, is_plan_bar(table, {**bar, comer: changed}), changed)
        self.assertGreater(found, 5)

    def test_too_shallow_and_too_deep(self):
        table = names(5)
        bar = plan_bar(table)
        comer = ("person", 0)
        self.assertEqual(bar[comer][0], "then")
        word, one, inner = bar[comer]
        self.assert_flag(False, is_plan_bar(table, {**bar, comer: (word, one, {})}))
        for other in inner:
            less = {who: inner[who] for who in inner if who != other}
            self.assert_flag(False, is_plan_bar(table, {**bar, comer: (word, one, less)}))
            self.assert_flag(False, is_plan_bar(table, {**bar, comer: (word, one, {**inner, other: (word, 0, None)})}))
        self.assert_flag(False, is_plan_bar(table, {**bar, comer: (word, one, bar)}))
        self.assert_flag(False, is_plan_bar(table, inner))
        # One person alone: behind the only draw all have drawn, and there is no bar.
        for thing in ({}, {("person", 0): ("then", 0, {}), ("thing", 0): ("then", 0, {})}):
            self.assert_flag(False, is_plan_bar(full(1), thing))

    def test_no_bars(self):
        table = names(5)
        bar = plan_bar(table)
        before = copy.deepcopy(bar)
        for thing in odd_numbers() + [list(bar), tuple(bar.items()), [bar], (bar,), {}, plan(names(4))]:
            self.assert_flag(False, is_plan_bar(table, thing), thing)
        for wrap in (lambda thing: {("person", 0): ("then", 0, thing)}, lambda thing: ("then", 0, thing)):
            self.assert_flag(False, is_plan_bar(table, nested(wrap, 20)))
        self.assert_flag(True, is_plan_bar(table, bar))
        self.assertEqual(bar, before)
        self.assert_flag(False, is_plan_bar(names(4), bar))


if __name__ == "__main__":
    unittest.main()
