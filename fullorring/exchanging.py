"""Exchanges behind a draw: two people may exchange their things if each may get that of the other one."""

from math import lcm

from fullorring.checks import is_pair
from fullorring.counting import dealings_of
from fullorring.dealings import is_dealing
from fullorring.errors import NoChances, NoDealing, NoSteps, TooMany
from fullorring.numbers import many_dealings
from fullorring.pieces import live_of
from fullorring.ratios import is_fraction, lowest, plus, times

MOST_DEALINGS = 2000


def exchanges(table, dealing):
    """The ascending list of the pairs of people who may exchange their things."""
    _check_dealing(table, dealing)
    return _pairs_at(table, dealing)


def _pairs_at(table, lot):
    return [
        (one, other)
        for one in range(table.size) for other in range(one + 1, table.size)
        if _may_exchange(table, lot, one, other)
    ]


def _may_exchange(table, lot, one, other):
    return lot[other] in table.rows[one] and lot[one] in table.rows[other]


def exchanged(table, dealing, steps):
    """The dealing behind exchanges, done one behind another."""
    _check_dealing(table, dealing)
    if not isinstance(steps, (list, tuple)):
        raise NoSteps()
    lot = dealing
    for step in steps:
        if not _is_step(table, lot, step):
            raise NoSteps()
        lot = _behind(lot, step)
    return lot


def _is_step(table, lot, thing):
    return is_pair(table, thing) and thing[0] < thing[1] and _may_exchange(table, lot, thing[0], thing[1])


def _behind(lot, pair):
    """The dealing behind one exchange."""
    one, other = pair
    return lot[:one] + (lot[other],) + lot[one + 1:other] + (lot[one],) + lot[other + 1:]


def steps_between(table, one, other):
    """The fewest exchanges that lead from a dealing to another one, or None."""
    _check_dealing(table, one)
    _check_dealing(table, other)
    _check_few(table)
    ways = _ways_from(table, one)
    if other not in ways:
        return None
    steps = []
    lot = other
    while ways[lot] is not None:
        lot, pair = ways[lot]
        steps.append(pair)
    return steps[::-1]


def _ways_from(table, start):
    """The dict from all dealings that are come to, to None for the start, else the one ahead and the exchange.

    Nearer ones are come to first, so that each way is one of the fewest exchanges.
    """
    ways = {start: None}
    waiting = [start]
    while waiting:
        behind = []
        for lot in waiting:
            for pair in _pairs_at(table, lot):
                after = _behind(lot, pair)
                if after not in ways:
                    ways[after] = (lot, pair)
                    behind.append(after)
        waiting = behind
    return ways


def islands(table):
    """The ascending list of the ascending tuples of the dealings that come to one another."""
    live_of(table)
    _check_few(table)
    seen = set()
    found = []
    for lot in dealings_of(table.rows):
        if lot not in seen:
            island = tuple(sorted(list(_ways_from(table, lot))))
            found.append(island)
            for one in island:
                seen.add(one)
    return found


def is_carried(table):
    """Whether all dealings come to one another."""
    return len(islands(table)) == 1


def parted(table):
    """A pair of dealings that do not come to one another, or None."""
    found = islands(table)
    return None if len(found) == 1 else (found[0][0], found[1][0])


def stirred(table, chances):
    """The chances behind one stirring."""
    # Where there is no dealing, there are no chances that come to 1: it cannot come to Stuck.
    if not _is_chances(table, chances):
        raise NoChances()
    _check_few(table)
    return {lot: _chance_behind(table, chances, lot) for lot in chances}


def _is_chances(table, thing):
    """Whether it is a dict from all dealings to fractions from 0 on that come to 1."""
    if not isinstance(thing, dict) or not all([is_dealing(table, lot) for lot in thing]):
        return False
    shares = list(thing.values())
    if not all([is_fraction(share) and share[0] >= 0 for share in shares]):
        return False
    return _come_to_one(shares) and len(thing) == many_dealings(table)


def _come_to_one(shares):
    common = 1
    for _, bottom in shares:
        common = lcm(common, bottom)
    return sum([top * (common // bottom) for top, bottom in shares]) == common


def _chance_behind(table, chances, lot):
    """The chance of a dealing behind one stirring: from it where nothing happens, from the others by exchanges."""
    many = table.size * (table.size - 1) // 2
    if many == 0:
        return chances[lot]
    pairs = _pairs_at(table, lot)
    total = times(chances[lot], (many - len(pairs), 1))
    for pair in pairs:
        total = plus(total, chances[_behind(lot, pair)])
    return lowest(total[0], total[1] * many)


def _check_dealing(table, lot):
    if not is_dealing(table, lot):
        raise NoDealing()


def _check_few(table):
    if many_dealings(table) > MOST_DEALINGS:
        raise TooMany(MOST_DEALINGS)
