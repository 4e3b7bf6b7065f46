"""What the tests share: a plain listing of all dealings, many tables, and things of every kind."""

import copy
import fractions
import functools
import itertools
import random
import unittest

from fullorring import errors
from fullorring.desk import Desk
from fullorring.kinds import Kinds
from fullorring.live import Draw
from fullorring.tables import Table, beside, full, names, renumbered, ring, with_tie

DEPTH = 40
LONG = 9999

# Tables with just 5000 and 5001 dealings.
TABLE_5000 = Table((
    (0, 4, 5, 8), (1, 2, 3, 5, 6, 7), (0, 2, 3, 5, 6, 7, 8), (0, 1, 2, 3, 4, 5, 6, 7, 8), (0, 3, 4, 7, 8),
    (1, 3, 4, 6), (5, 6, 7), (0, 2, 4, 5, 7, 8), (0, 1, 2, 3, 4, 5, 6, 8),
))
TABLE_5001 = Table((
    (0, 2, 3, 5, 6, 8), (4, 6, 7, 8), (0, 1, 2, 3, 8), (2, 3, 5, 8), (0, 2, 3, 4, 5, 6),
    (0, 1, 2, 3, 5, 6, 7, 8), (1, 2, 3, 4, 5, 6, 7, 8), (3, 4, 6, 7, 8), (0, 2, 4, 5, 7, 8),
))
# Tables with just 2000 and 2001 dealings.
TABLE_2000 = Table((
    (0, 1, 3, 4, 5, 6, 7), (2, 3, 5, 6, 7), (0, 2, 4, 5, 6), (1, 2, 5, 7), (0, 1, 4, 6, 7), (0, 1, 2, 3, 5, 6, 7),
    (0, 1, 2, 3, 4, 5, 6, 7), (2, 3, 5, 7),
))
TABLE_2001 = Table((
    (1, 2, 3, 5, 6, 7), (0, 2, 3, 4, 6, 7), (0, 1, 2, 3, 4, 5, 6, 7), (0, 1, 2, 3, 4, 6), (0, 2, 3, 4, 5, 7),
    (0, 2, 3, 4, 6), (0, 2, 3, 5, 7), (0, 2, 4, 6),
))
W = Table(((1, 2), (0, 1, 2), (0, 1, 2)))
STUCK = Table(((0,), (0,), (0, 1, 2)))
CUSTOMS = ("ahead", "near", "anew", "strict")


def dealings(rows, drawn=()):
    """All dealings in ascending order, person by person."""
    if len(drawn) == len(rows):
        return [drawn]
    found = []
    for thing in rows[len(drawn)]:
        if thing not in drawn:
            found += dealings(rows, drawn + (thing,))
    return found


def turns(size):
    return list(itertools.permutations(range(size)))


def choices(rows, turn, custom, drawn):
    """The things of which the one draws who comes up when these things were drawn by the first ones of the turn."""
    person = turn[len(drawn)]
    left = [thing for thing in range(len(rows)) if thing not in drawn]
    fitting = [thing for thing in left if thing in rows[person]]
    others = [rows[who] for who in turn[len(drawn) + 1:]]
    if custom == "strict":
        return left
    if custom == "anew":
        return fitting
    if custom == "near":
        return [thing for thing in fitting if all(set(left) - {thing} & set(row) for row in others)]
    taken = [dict(zip(turn, drawn + (thing,))) for thing in fitting]
    return [thing for thing, held in zip(fitting, taken)
            if any(all(one[who] == own for who, own in held.items()) for one in listed(rows))]


@functools.lru_cache(maxsize=None)
def listed(rows):
    return tuple(dealings(rows))


@functools.lru_cache(maxsize=None)
def straight(rows, turn, custom):
    """The dict from all dealings to the chances with which they come without beginning anew."""
    found = {}
    waiting = [((), fractions.Fraction(1))]
    while waiting:
        drawn, share = waiting.pop()
        if len(drawn) == len(rows):
            held = dict(zip(turn, drawn))
            found[tuple(held[person] for person in range(len(rows)))] = share
            continue
        some = choices(rows, turn, custom, drawn)
        waiting += [(drawn + (thing,), share / len(some)) for thing in some if thing in rows[turn[len(drawn)]]]
    return found


def plain_chances(rows, turn, custom):
    """The dict from all dealings to their chances."""
    found = straight(rows, turn, custom)
    return {lot: share / sum(found.values()) for lot, share in found.items()}


def pair(share):
    """The fraction as the package has it."""
    return share.numerator, share.denominator


def with_dealing(tables):
    return [table for table in tables if listed(table.rows)]


def subsets(items):
    """All ascending tuples of some of the items."""
    return [lot for many in range(len(items) + 1) for lot in itertools.combinations(items, many)]


def all_tables(size):
    return [Table(rows) for rows in itertools.product(subsets(range(size)), repeat=size)]


def some_tables(size, many, seed=7):
    """Tables with thin and with thick rows, the same in each run."""
    chance = random.Random(seed * 100 + size)
    found = []
    for at in range(many):
        share = (0.3, 0.5, 0.7, 0.85)[at % 4]
        found.append(Table(tuple(
            tuple(thing for thing in range(size) if chance.random() < share) for _ in range(size)
        )))
    return found


def small_tables():
    """All tables of up to 3 people, and many greater ones."""
    return (
        all_tables(1) + all_tables(2) + all_tables(3) + some_tables(4, 160) + some_tables(5, 80) + some_tables(6, 24)
        + [full(4), names(4), ring(4), names(5), ring(5), ring(6), beside(ring(3), full(2)), shuffled(ring(6))]
    )


def shuffled(table, seed=3):
    """The table with people and things renumbered, the same in each run."""
    chance = random.Random(seed)
    people = list(range(table.size))
    things = list(range(table.size))
    chance.shuffle(people)
    chance.shuffle(things)
    return renumbered(table, tuple(people), tuple(things))


def great_table():
    """40 people: full, names and ring, with an idle tie from one piece to another."""
    return with_tie(beside(beside(full(12), names(12)), beside(ring(12), full(4))), 0, 39)


def nested(wrap, depth=DEPTH):
    """A thing of the depth."""
    thing = wrap(None)
    for _ in range(depth - 1):
        thing = wrap(thing)
    return thing


def odd_numbers():
    """Things that are no number of anything, of every kind."""
    return [
        None, True, False, -1, -10 ** 59, 10 ** 59, "", "0", "1", "ahead", "a\tb\n", b"", b"\x00", bytearray(b"0"),
        memoryview(b"01"), (), (0,), (0, 0), [], [0], [[0]], {}, {0: 0}, {(0, 0): 1}, range(0), range(1), range(3),
        len, int, odd_numbers, lambda: 0, slice(0, 1), ..., NotImplemented, object(), iter([0]), enumerate([0]),
        errors.NoPerson(), errors.NoPerson, Table, Table(((0,),)), full(3), ValueError("x"), unittest,
        Kinds((1,), (1,), ((0,),)), Draw(Table(((0,),))), Desk(), Kinds, Draw, Desk,
        nested(lambda thing: [thing]), nested(lambda thing: (thing,)), nested(lambda thing: {0: thing}),
        nested(lambda thing: (0, thing)), (0,) * LONG, [0] * LONG, tuple(range(LONG)), {at: at for at in range(LONG)},
    ]


def odd_tuples(right):
    """Things that are as little a right tuple as can be, for a tuple that is one."""
    found = [
        None, True, False, 0, 1, -1, 10 ** 59, "", "0 1 2", "012", b"", b"\x00\x01\x02", bytearray(b"\x00\x01"), {},
        dict(enumerate(right)), dict.fromkeys(right), range(len(right)), len, tuple, lambda: right, ..., slice(0, 1),
        NotImplemented, object(), iter(right), errors.NoLot(), Table(((0,),)), full(3), (full(3),) * len(right),
        Kinds((1,), (1,), ((0,),)), Draw(Table(((0,),))), Desk(), (Kinds((1,), (1,), ((0,),)),) * len(right),
        list(right), list(right) + [0], [right], (right,), tuple(str(one) for one in right),
        tuple([one] for one in right), tuple((one,) for one in right), tuple({0: one} for one in right),
        (True,) * len(right), (False,) * len(right), (-1,) * len(right), (10 ** 59,) * len(right),
        nested(lambda thing: [thing]), nested(lambda thing: (thing,)), nested(lambda thing: {0: thing}),
        (nested(lambda thing: (thing,), DEPTH - 1),) * len(right), (0,) * LONG, tuple(range(LONG)), [0] * LONG,
    ]
    return found


def odd_turns(size):
    """Things that are no turn, for a size of two or more."""
    right = tuple(range(size))
    found = [right[1:], right + (0,), right + (size,), right[:-1] + (0,), right[:-1] + (size,), right[:-1] + (-1,),
             (False,) + right[1:], (None,) + right[1:], right[:1] + (True,) + right[2:], list(right), right * 2, ()]
    return found + odd_tuples(right)


def odd_customs():
    """Things that are no custom."""
    found = ["Ahead", "ahead ", " anew", "", "strict\n", b"ahead", ("ahead",), ["anew"], {"near": "near"}, "all"]
    return found + [thing for thing in odd_numbers() if not (isinstance(thing, str) and thing in CUSTOMS)]


class PlainTest(unittest.TestCase):
    """Tests with what they ask again and again."""

    def assert_raises(self, error, fields, function, *arguments):
        """The call raises just this error with just these fields, whatever the arguments are, and leaves them."""
        with self.assertRaises(errors.DrawError) as caught:
            function(*arguments)
        self.assertIs(caught.exception.__class__, getattr(errors, error), (function, arguments[1:]))
        self.assertEqual(vars(caught.exception), fields)

    def assert_flag(self, flag, told, *hint):
        self.assertIs(told, flag, hint)

    def assert_new(self, function, *arguments):
        """Equal calls give equal answers, whatever was done with the answers, and leave the arguments."""
        before = copy.deepcopy(arguments)
        answer = function(*arguments)
        self.assertIn(answer.__class__, (list, dict))
        first = copy.deepcopy(answer)
        answer.clear()
        again = function(*arguments)
        self.assertEqual(again, first)
        self.assertIsNot(again, answer)
        self.assertEqual(arguments, before)
