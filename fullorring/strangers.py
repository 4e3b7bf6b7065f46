"""Strangers' drawers, of which it is known only what they pick, and the sides that an even one needs."""

from math import gcd, lcm

from fullorring.checks import check_turn, is_integer
from fullorring.errors import NoNumber, TooMany
from fullorring.lots import many_by_lot, steps_of
from fullorring.numbers import many_dealings
from fullorring.pieces import live_of
from fullorring.ratios import plus, times
from fullorring.standings import left_things, with_drawn

MOST_SIDES = 12
MOST_EVEN_SIDES = 5000
MOST_PEOPLE = 6
STUCK = "stuck"


def drawer_chances(table, turn, sides, pick):
    """The dict from all dealings that come by a drawer, and from "stuck" if it comes to that, to their chances."""
    check_turn(table, turn)
    if not is_integer(sides) or not 1 <= sides <= MOST_SIDES:
        raise NoNumber()
    _check_few_people(table)
    shares = {(None,) * table.size: (1, 1)}
    stuck = (0, 1)
    for person in turn:
        behind = {}
        for standing, share in shares.items():
            for picked, many in _picks(table, standing, person, sides, pick).items():
                part = times(share, (many, sides))
                if picked == STUCK:
                    stuck = plus(stuck, part)
                else:
                    after = with_drawn(standing, person, picked)
                    behind[after] = plus(behind.get(after, (0, 1)), part)
        shares = behind
    if stuck[0] > 0:
        shares[STUCK] = stuck
    return shares


def _picks(table, standing, person, sides, pick):
    """The dict from the things left that a drawer picks, and "stuck" for all else, to by how many sides it does."""
    left = left_things(table, standing, person)
    found = {}
    for throw in range(sides):
        thing = pick(standing, person, throw)
        picked = thing if is_integer(thing) and thing in left else STUCK
        found[picked] = found.get(picked, 0) + 1
    return found


def drawer_even(table, turn, sides, pick):
    """Whether just the dealings come by a drawer, all alike likely."""
    shares = drawer_chances(table, turn, sides, pick)
    # Whoever draws things that are left alone comes to a dealing.
    if STUCK in shares or len(shares) != many_dealings(table):
        return False
    return len(set(list(shares.values()))) == 1


def even_sides(table, turn):
    """The least number of sides with which some drawer is even, or None if there is none up to 5000."""
    check_turn(table, turn)
    _check_few_people(table)
    steps = steps_of(table, turn)
    many = many_by_lot(steps)
    sides = 1
    for lot, choices in steps.items():
        shared = 0
        for one in choices.values():
            shared = gcd(shared, many[one])
        # Each open thing is to be picked by its part of the sides, a whole number of them.
        sides = lcm(sides, many[lot] // max(shared, 1))
    return sides if sides <= MOST_EVEN_SIDES else None


def _check_few_people(table):
    live_of(table)
    if table.size > MOST_PEOPLE:
        raise TooMany(MOST_PEOPLE)
