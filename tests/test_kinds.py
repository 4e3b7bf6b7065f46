"""Promises 14.1 to 14.3: kinds, families, and the fifth fact."""

import itertools
import random
import unittest

from fullorring.even import always_even
from fullorring.kinds import (
    Kinds, families, families_even, families_many, kinds_can, kinds_even, kinds_many, kinds_pieces, kinds_short, kinds_table,
)
from fullorring.numbers import many_dealings
from fullorring.pieces import pieces
from fullorring.tables import Table, beside, full, names, ring, ties
from plain import PlainTest, dealings, listed, nested, odd_customs, odd_numbers, odd_tuples, subsets

TWO = ("ahead", "anew")
HUGE = 10 ** 30
NOBODY = Kinds((0, 0), (0,), ((0,), ()))
SHORT = Kinds((2, 1), (1, 2), ((0,), (0, 1)))


def kinds_of(sizes):
    """The kind of each, kind by kind."""
    return [kind for kind, size in enumerate(sizes) for _ in range(size)]


def plain_rows(kinds):
    things = kinds_of(kinds.things)
    return tuple(tuple(thing for thing, own in enumerate(things) if own in kinds.allowed[kind]) for kind in kinds_of(kinds.people))


def some_kinds(many, most=7, seed=1):
    """Kinds of few people, the same in each run."""
    chance_of = random.Random(seed)
    found = []
    while len(found) < many:
        people = tuple(chance_of.choice((0, 1, 1, 2, 3)) for _ in range(chance_of.randrange(1, 5)))
        things = tuple(chance_of.choice((0, 1, 1, 2, 3)) for _ in range(chance_of.randrange(1, 5)))
        if sum(people) == sum(things) <= most:
            share = chance_of.choice((0.4, 0.6, 0.8))
            allowed = tuple(tuple(kind for kind in range(len(things)) if chance_of.random() < share) for _ in people)
            found.append(Kinds(people, things, allowed))
    return found


def plain_pieces(kinds):
    """The pieces by the dealings of the table, kind by kind."""
    rows = plain_rows(kinds)
    people_of, things_of = kinds_of(kinds.people), kinds_of(kinds.things)
    links = {(person, lot[person]) for lot in listed(rows) for person in range(len(rows))}
    found = []
    for person in range(len(rows)):
        piece = {("person", person)}
        for _ in range(2 * len(rows)):
            piece |= {("thing", thing) for who, thing in links if ("person", who) in piece}
            piece |= {("person", who) for who, thing in links if ("thing", thing) in piece}
        people = tuple(sorted({people_of[one] for kind, one in piece if kind == "person"}))
        things = tuple(sorted({things_of[one] for kind, one in piece if kind == "thing"}))
        found.append((people, things))
    return sorted(set(found))


class KindsTest(PlainTest):

    def test_attributes(self):
        kinds = Kinds((2, 1), (3,), ((0,), ()))
        self.assertEqual((kinds.people, kinds.things, kinds.allowed), ((2, 1), (3,), ((0,), ())))
        self.assertEqual(sorted(vars(kinds)), ["allowed", "people", "things"])
        self.assertIn("__eq__", vars(Kinds))

    def test_equal(self):
        kinds = Kinds((2, 1), (3,), ((0,), ()))
        self.assertEqual(kinds, Kinds((2, 1), (3,), ((0,), ())))
        self.assertFalse(kinds != Kinds((2, 1), (3,), ((0,), ())))
        for other in (Kinds((1, 2), (3,), ((0,), ())), Kinds((2, 1), (1, 2), ((0,), ())), Kinds((2, 1), (3,), ((0,), (0,))),
                      Kinds((2, 1), (3, 0), ((0,), ())), Kinds((2, 1, 0), (3,), ((0,), (), ()))):
            self.assertNotEqual(kinds, other)
        for thing in odd_numbers() + [((2, 1), (3,), ((0,), ())), full(3)]:
            self.assertFalse(kinds == thing)
            self.assertFalse(thing == kinds)
            self.assertTrue(kinds != thing)

    def test_bounds(self):
        for sizes in ((0,), (HUGE,), (0,) * 8, (HUGE,) * 8, (1, 2, 3, 4, 5, 6, 7, 8)):
            self.assertEqual(Kinds(sizes, sizes[::-1], ((),) * len(sizes)).people, sizes)
        for sizes in ((), (0,) * 9, (HUGE + 1,), (-1,), (-1, 2), [1], [1, 0], (True,), (1, False), (None,), ("1",), (1, (0,)), 1, "1",
                      {0: 1}, range(2), (10 ** 59,), (1, [0])):
            self.assert_raises("BadKinds", {"part": "people"}, Kinds, sizes, (1,), ((0,),))
            self.assert_raises("BadKinds", {"part": "people"}, Kinds, sizes, sizes, None)
            self.assert_raises("BadKinds", {"part": "things"}, Kinds, (1,), sizes, ((0,),))
            self.assert_raises("BadKinds", {"part": "things"}, Kinds, (1,), sizes, None)

    def test_wrong_sizes(self):
        for thing in odd_numbers() + odd_tuples((1, 1)):
            if isinstance(thing, tuple) and 1 <= len(thing) <= 8 and all(one.__class__ is int and one >= 0 for one in thing):
                continue
            self.assert_raises("BadKinds", {"part": "people"}, Kinds, thing, (1, 1), ((0,), (1,)))
            self.assert_raises("BadKinds", {"part": "things"}, Kinds, (1, 1), thing, ((0,), (1,)))

    def test_wrong_allowed(self):
        right = ((0, 1), (1,))
        self.assertEqual(Kinds((1, 1), (2, 0), right).allowed, right)
        wrong = [
            right[:1], right + ((),), list(right), ([0, 1], (1,)), ((1, 0), (1,)), ((0, 0), (1,)), ((0, 2), (1,)), ((-1, 0), (1,)),
            ((False,), (1,)), ((0, True), (1,)), (0, 1), ((0,), None), ((0,), 1), ((0,), "1"), ((0,), {1: 1}), ((0,), ((1,),)), {0: (0,), 1: (1,)},
            ((0, None), (1,)), ((0,), range(1)), (), None, ((0,), full(2)), nested(lambda thing: (thing,)),
        ]
        for thing in wrong + odd_numbers():
            self.assert_raises("BadKinds", {"part": "allowed"}, Kinds, (1, 1), (2, 0), thing)
            self.assert_raises("BadKinds", {"part": "allowed"}, Kinds, (1, 1), (1, 0), thing)
        for thing in odd_tuples((0, 1)):
            self.assert_raises("BadKinds", {"part": "allowed"}, Kinds, (1,), (0, 1), (thing,) if thing != (0, 1) else None)

    def test_sums(self):
        for people, things in [((1,), (0,)), ((0,), (1,)), ((1, 2), (2, 2)), ((HUGE, 1), (HUGE,)), ((HUGE,), (HUGE - 1,)), ((1,) * 8, (9,))]:
            self.assert_raises("BadKinds", {"part": "sums"}, Kinds, people, things, ((),) * len(people))
        self.assertEqual(Kinds((HUGE, 1), (1, HUGE), ((), (0, 1))).things, (1, HUGE))


class TableTest(PlainTest):

    def test_kinds_table(self):
        for kinds in some_kinds(200, 12):
            if sum(kinds.people) == 0:
                self.assert_raises("Empty", {}, kinds_table, kinds)
                continue
            self.assertEqual(kinds_table(kinds), Table(plain_rows(kinds)))

    def test_examples(self):
        self.assertEqual(kinds_table(Kinds((2, 1), (1, 2), ((1,), (0, 1)))), Table(((1, 2), (1, 2), (0, 1, 2))))
        self.assertEqual(kinds_table(Kinds((2, 0, 1), (0, 3), ((), (0, 1), (1,)))), Table(((), (), (0, 1, 2))))
        self.assertEqual(kinds_table(families((1,) * 4)), names(4))
        self.assertEqual(kinds_table(Kinds((12,), (12,), ((0,),))), full(12))

    def test_twelve_people_and_thirteen(self):
        self.assertEqual(kinds_table(Kinds((6, 6), (12,), ((0,), (0,)))).size, 12)
        for kinds in (Kinds((13,), (13,), ((0,),)), Kinds((6, 7), (12, 1), ((0,), (0,))), families((HUGE,) * 8)):
            self.assert_raises("TooMany", {"most": 12}, kinds_table, kinds)
        for kinds in (NOBODY, Kinds((0,), (0,), ((),)), Kinds((0,) * 8, (0,) * 8, (tuple(range(8)),) * 8)):
            self.assert_raises("Empty", {}, kinds_table, kinds)

    def test_the_table_may_be_passed_on(self):
        table = kinds_table(families((3, 1, 2)))
        self.assertEqual(len(pieces(table)), 2)
        self.assertEqual(many_dealings(beside(table, table)), 36 ** 2)
        self.assertEqual(len(ties(table)), 22)


class DealingTest(PlainTest):

    def test_kinds_can_and_kinds_short(self):
        for kinds in some_kinds(400):
            found = [lot for lot in subsets(range(len(kinds.people)))
                     if sum(kinds.people[kind] for kind in lot)
                     > sum(kinds.things[thing] for thing in {one for kind in lot for one in kinds.allowed[kind]})]
            self.assertEqual(kinds_short(kinds), found[0] if found else None, vars(kinds))
            self.assert_flag(not found, kinds_can(kinds))
            self.assertEqual(not found, len(listed(plain_rows(kinds))) > 0)

    def test_examples(self):
        self.assertEqual(kinds_short(SHORT), (0,))
        self.assertEqual(kinds_short(Kinds((2, 2, 2), (3, 3), ((0,), (0,), (0,)))), (0, 1))
        self.assertEqual(kinds_short(Kinds((0, 2, 2), (3, 1), ((0,), (0,), (0,)))), (1, 2))
        self.assertEqual(kinds_short(Kinds((1, HUGE, HUGE), (1, 2 * HUGE // 2, HUGE), ((), (1,), (2,)))), (0,))
        self.assertEqual(kinds_short(Kinds((HUGE, HUGE), (HUGE - 1, HUGE, 1), ((0, 2), (1,)))), None)
        self.assertEqual(kinds_short(Kinds((HUGE, HUGE), (HUGE - 1, HUGE, 1), ((0,), (1, 2)))), (0,))
        self.assert_flag(True, kinds_can(NOBODY))
        self.assertIs(kinds_short(NOBODY), None)

    def test_kinds_pieces(self):
        for kinds in some_kinds(300):
            if not listed(plain_rows(kinds)):
                self.assert_raises("Stuck", {}, kinds_pieces, kinds)
            else:
                self.assertEqual(kinds_pieces(kinds), plain_pieces(kinds), vars(kinds))

    def test_kinds_even(self):
        found = {custom: [] for custom in TWO}
        for kinds in some_kinds(400, 8) + [
            Kinds((1, 1, 1), (1, 1, 1), ((0, 1), (1, 2), (0, 2))), Kinds((1, 1, 1), (1, 2), ((0, 1), (0, 1), (1,))),
            Kinds((2, 2), (2, 2), ((0,), (0, 1))), Kinds((2, 2), (1, 1, 2), ((0, 1), (0, 2))), Kinds((1, 1), (1, 1), ((0, 1), (0, 1))),
        ]:
            if sum(kinds.people) == 0:
                continue
            for custom in TWO:
                if not listed(plain_rows(kinds)):
                    self.assert_raises("Stuck", {}, kinds_even, kinds, custom)
                    continue
                found[custom].append(always_even(kinds_table(kinds), custom))
                self.assert_flag(found[custom][-1], kinds_even(kinds, custom), vars(kinds), custom)
        for custom in TWO:
            self.assertGreater(found[custom].count(False), 20)

    def test_nobody(self):
        self.assertEqual(kinds_pieces(NOBODY), [])
        self.assertEqual(kinds_many(NOBODY, 7), 1)
        self.assertEqual(kinds_many(NOBODY, 1), 0)
        for custom in TWO:
            self.assert_flag(True, kinds_even(NOBODY, custom))
        empty = Kinds((0, 2), (2, 0), ((1,), (0, 1)))
        self.assertEqual(kinds_pieces(empty), [((1,), (0,))])
        for custom in TWO:
            self.assert_flag(True, kinds_even(empty, custom))

    def test_huge_ones(self):
        two = Kinds((HUGE, HUGE), (HUGE, HUGE), ((0,), (0, 1)))
        self.assertEqual(kinds_pieces(two), [((0,), (0,)), ((1,), (1,))])
        self.assert_flag(True, kinds_even(two, "ahead"))
        self.assert_flag(True, kinds_even(two, "anew"))
        three = Kinds((HUGE, HUGE), (HUGE, 1, HUGE - 1), ((0, 1), (0, 1, 2)))
        self.assertEqual(kinds_pieces(three), [((0, 1), (0, 1, 2))])
        self.assert_flag(False, kinds_even(three, "ahead"))
        part = Kinds((HUGE, HUGE), (HUGE, 1, HUGE - 1), ((0,), (0, 1, 2)))
        self.assertEqual(kinds_pieces(part), [((0,), (0,)), ((1,), (1, 2))])
        self.assert_flag(True, kinds_even(part, "anew"))
        some = Kinds((HUGE, HUGE), (1, HUGE - 1, HUGE), ((0, 1), (0, 2)))
        self.assertEqual(kinds_pieces(some), [((0,), (0, 1)), ((1,), (2,))])
        self.assert_flag(True, kinds_even(some, "ahead"))
        self.assert_flag(False, kinds_even(some, "anew"))
        eight = Kinds((HUGE,) * 8, (HUGE,) * 8, tuple(tuple(sorted({kind, (kind + 1) % 8})) for kind in range(8)))
        self.assertEqual(kinds_pieces(eight), [(tuple(range(8)), tuple(range(8)))])
        self.assert_flag(False, kinds_even(eight, "ahead"))
        self.assertEqual(kinds_table(Kinds((1,) * 8, (1,) * 8, eight.allowed)), ring(8))
        self.assert_flag(True, kinds_even(Kinds((1,) * 8, (1,) * 8, eight.allowed), "ahead"))

    def test_no_custom(self):
        for custom in odd_customs() + ["near", "strict"]:
            for kinds in (SHORT, NOBODY, families((1, 1))):
                self.assert_raises("NoCustom", {}, kinds_even, kinds, custom)

    def test_lists_are_new(self):
        self.assert_new(kinds_pieces, families((3, 1, 2)))


class ManyTest(PlainTest):

    def test_kinds_many(self):
        for kinds in some_kinds(300):
            many = len(dealings(plain_rows(kinds)))
            for modulus in (1, 2, 3, 7, 10 ** 9 + 7, HUGE):
                self.assertEqual(kinds_many(kinds, modulus), many % modulus, vars(kinds))
        for kinds in some_kinds(60, 12, 2):
            if sum(kinds.people) > 7:
                self.assertEqual(kinds_many(kinds, HUGE), many_dealings(kinds_table(kinds)) % HUGE)

    def test_bounds(self):
        factorial = 1
        for number in range(1, 61):
            factorial *= number
        self.assertEqual(kinds_many(Kinds((60,), (60,), ((0,),)), HUGE), factorial % HUGE)
        self.assertEqual(kinds_many(Kinds((30, 30), (60,), ((0,), (0,))), HUGE - 1), factorial % (HUGE - 1))
        self.assertEqual(kinds_many(Kinds((60,), (60,), ((),)), HUGE), 0)
        self.assert_raises("TooMany", {"most": 60}, kinds_many, Kinds((61,), (61,), ((0,),)), 5)
        self.assert_raises("TooMany", {"most": 60}, kinds_many, families((HUGE,) * 8), 5)
        # 5 * 10 * 10 * 10 is just 5000, and 3 * 3 * 557 is 5013.
        at_most = Kinds((31,), (4, 9, 9, 9), ((0, 1, 2, 3),))
        self.assertEqual(kinds_many(at_most, 10 ** 9 + 9), kinds_many(Kinds((31,), (31,), ((0,),)), 10 ** 9 + 9))
        for things in ((5, 9, 9, 9), (4, 9, 9, 9, 1), (10, 10, 10, 10), (5,) * 5, (1,) * 4 + (5, 5, 8)):
            most = Kinds((sum(things),), things, ((0,),))
            self.assert_raises("TooMany", {"most": 5000}, kinds_many, most, 5)
        self.assertEqual(kinds_many(Kinds((8,), (1,) * 8, (tuple(range(8)),)), HUGE), 40320)

    def test_no_number(self):
        for modulus in odd_numbers() + [0, -1, HUGE + 1, 2 * HUGE, (1,), [7], 10 ** 31]:
            for kinds in (SHORT, NOBODY, families((1, 1)), families((HUGE,) * 8)):
                self.assert_raises("NoNumber", {}, kinds_many, kinds, modulus)
            for sizes in ((1, 1), (HUGE,) * 8):
                self.assert_raises("NoNumber", {}, families_many, sizes, modulus)


class FamiliesTest(PlainTest):

    def sizes(self):
        return [sizes for many in (1, 2, 3, 4) for sizes in itertools.product(range(1, 6), repeat=many) if sum(sizes) <= 7]

    def test_families(self):
        for sizes in self.sizes():
            kinds = families(sizes)
            self.assertIs(kinds.__class__, Kinds)
            self.assertEqual((kinds.people, kinds.things), (sizes, sizes))
            own = kinds_of(sizes)
            rows = tuple(tuple(thing for thing in range(len(own)) if own[thing] != kind) for kind in own)
            self.assertEqual(kinds_table(kinds).rows, rows)
            many = len(listed(rows))
            for modulus in (1, 2, 10, HUGE):
                self.assertEqual(families_many(sizes, modulus), many % modulus, sizes)
            self.assertEqual(kinds_many(kinds, HUGE), many)
            self.assertEqual(many > 0, 2 * max(sizes) <= sum(sizes))

    def test_the_fifth_fact(self):
        for sizes in self.sizes() + [(3, 1, 2), (4, 4), (4, 1, 1, 2), (5, 5), (3, 3, 1), (2, 2, 2), (1,) * 8, (6,) + (1,) * 6, (5,) + (1,) * 6]:
            if 2 * max(sizes) > sum(sizes):
                for custom in TWO:
                    self.assert_raises("Stuck", {}, families_even, sizes, custom)
                continue
            table = kinds_table(families(sizes))
            ahead = 2 * max(sizes) == sum(sizes) or sizes == (1, 1, 1)
            self.assert_flag(ahead, families_even(sizes, "ahead"), sizes)
            self.assertEqual(always_even(table, "ahead"), ahead, sizes)
            anew = len(sizes) == 2 and sizes[0] == sizes[1]
            self.assert_flag(anew, families_even(sizes, "anew"), sizes)
            self.assertEqual(always_even(table, "anew"), anew, sizes)

    def test_huge_ones(self):
        half = HUGE // 2
        for sizes, ahead, anew in [
            ((HUGE, HUGE), True, True), ((HUGE, half, half), True, False), ((HUGE, half, half - 1, 1), True, False), ((HUGE,) * 3, False, False),
            ((HUGE, half, half + 1), False, False), ((HUGE,) * 8, False, False), ((1, 1), True, True), ((1, 1, 1), True, False),
            ((7, 1, 1, 1, 1, 1, 1, 1), True, False), ((6, 1, 1, 1, 1, 1, 1, 1), False, False),
        ]:
            self.assert_flag(ahead, families_even(sizes, "ahead"), sizes)
            self.assert_flag(anew, families_even(sizes, "anew"), sizes)
        for sizes in ((1,), (HUGE,), (HUGE, HUGE - 1), (HUGE, half, half - 1), (8, 1, 1, 1, 1, 1, 1, 1)):
            for custom in TWO:
                self.assert_raises("Stuck", {}, families_even, sizes, custom)

    def test_examples(self):
        self.assert_flag(True, families_even((3, 1, 2), "ahead"))
        self.assertEqual(families_many((2, 1, 1), 1000), 4)
        self.assertEqual(families_many((1,) * 8, HUGE), 14833)
        self.assertEqual(families_many((3,), 5), 0)

    def test_four_hundred_people_and_one_more(self):
        for modulus in (HUGE, 10 ** 9 + 7):
            half = 1
            for number in range(1, 201):
                half = half * number % modulus
            for sizes in ((200, 200), (200, 150, 50), (1, 200, 199), (50, 50, 50, 50, 200)):
                self.assertEqual(families_many(sizes, modulus), half * half % modulus)
        self.assertEqual(families_many((201, 199), HUGE), 0)
        self.assertLess(families_many((50,) * 8, HUGE), HUGE)
        for sizes in ((20, 20, 20), (4, 9, 6, 8), (13, 13, 20)):
            self.assertEqual(families_many(sizes, HUGE - 7), states_many(sizes, HUGE - 7))
        for sizes in ((401,), (201, 200), (51,) + (50,) * 7, (HUGE, HUGE)):
            self.assert_raises("TooMany", {"most": 400}, families_many, sizes, 5)

    def test_no_sizes(self):
        right = (1, 2)
        wrong = [(), (0,), (1, 0), (1,) * 9, (HUGE + 1,), (-1, 1), (True, 1), (1, None), (1, "1"), [1, 1], {0: 1}, (1, (1,)), 2, "11", range(1, 3)]
        wrong += [thing for thing in odd_numbers() + odd_tuples(right) if not isinstance(thing, tuple)]
        for sizes in wrong:
            self.assert_raises("NoSizes", {}, families, sizes)
            for custom in TWO + (None, "near"):
                self.assert_raises("NoSizes", {}, families_even, sizes, custom)
            for modulus in (5, 0, None):
                self.assert_raises("NoSizes", {}, families_many, sizes, modulus)

    def test_no_custom(self):
        for custom in odd_customs() + ["near", "strict"]:
            for sizes in ((1, 1), (1,), (HUGE, 1)):
                self.assert_raises("NoCustom", {}, families_even, sizes, custom)


def states_many(sizes, modulus):
    """The number of dealings of families, person by person, by how many names of each family are left."""
    ways = {sizes: 1}
    for own, size in enumerate(sizes):
        for _ in range(size):
            behind = {}
            for left, many in ways.items():
                for kind, number in enumerate(left):
                    if kind != own and number > 0:
                        after = left[:kind] + (number - 1,) + left[kind + 1:]
                        behind[after] = behind.get(after, 0) + many * number
            ways = behind
    return sum(ways.values()) % modulus


if __name__ == "__main__":
    unittest.main()
