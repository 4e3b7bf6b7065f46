"""Cures: ties to strike so that what is left is even in every turn.

What is left of a table by a cure has as its pieces the parts of just one COVER (covers.py), of which it has all
ties. The other ties go from a part to a part. An ARC is here a pair of numbers of parts, of the people's and of the
things'; a BUNDLE is ties of one arc that are struck all or not at all. No arcs that are left lead round, else the
parts would hang together.
"""

from fullorring.checks import check_custom, check_person, check_thing, is_integer, is_tie
from fullorring.covers import covers_of
from fullorring.errors import NoPrices, TooMany
from fullorring.even import ALWAYS_CUSTOMS, always_even
from fullorring.matching import live_rows
from fullorring.pieces import live_of
from fullorring.tables import table_of, ties

MOST_TIES = 20
MOST_PRICE = 1000


def is_cure(table, custom, thing):
    """Whether it is a cure by a custom."""
    check_custom(ALWAYS_CUSTOMS, custom)
    _check_few_ties(table)
    if not isinstance(thing, tuple) or not all([is_tie(table, tie) for tie in thing]):
        return False
    if not all([low < high for low, high in zip(thing, thing[1:])]):
        return False
    rows = [[one for one in row if (person, one) not in thing] for person, row in enumerate(table.rows)]
    if live_rows(rows) is None:
        return False
    return always_even(table_of(tuple([tuple(row) for row in rows])), custom)


def fewest_cure(table, custom):
    """The fewest ties of a cure."""
    return len(cures(table, custom)[0])


def cures(table, custom):
    """The ascending list of all cures of the fewest ties."""
    check_custom(ALWAYS_CUSTOMS, custom)
    _check_few_ties(table)
    return sorted(_cheapest_lots(table, custom, _all_at_one(table), None)[1])


def cheapest_cure(table, custom, prices):
    """The pair of the least sum of prices of a cure, and the least cure of this sum."""
    check_custom(ALWAYS_CUSTOMS, custom)
    if not _is_prices(table, prices):
        raise NoPrices()
    _check_few_ties(table)
    total, lots = _cheapest_lots(table, custom, prices, None)
    return total, min(lots)


def wish_cure(table, custom, person, thing):
    """The least of the cures of the fewest ties with which the person can still get the thing, or None."""
    check_custom(ALWAYS_CUSTOMS, custom)
    check_person(table, person)
    check_thing(table, thing)
    _check_few_ties(table)
    lots = _cheapest_lots(table, custom, _all_at_one(table), (person, thing))[1]
    return min(lots) if lots else None


def _check_few_ties(table):
    live_of(table)
    if len(ties(table)) > MOST_TIES:
        raise TooMany(MOST_TIES)


def _all_at_one(table):
    return {tie: 1 for tie in ties(table)}


def _is_prices(table, thing):
    own = ties(table)
    if not isinstance(thing, dict) or len(thing) != len(own) or not all([tie in thing for tie in own]):
        return False
    return all([is_integer(thing[tie]) and 0 <= thing[tie] <= MOST_PRICE for tie in own])


def _cheapest_lots(table, custom, prices, wish):
    """The pair of the least sum of a cure, and a list of cures of this sum.

    With the wish, a tie, it is for the cures alone behind which this is in a dealing. Where no price is 0 the list
    has all cures of the sum, else at least the least one.
    """
    least = sum(list(prices.values()))
    found = []
    for cover in covers_of(table.rows, custom):
        if wish is not None and not any([wish in part[2] for part in cover]):
            continue
        for total, lot in _lots_for(table, custom, prices, cover, least):
            if total < least:
                least = total
                found = []
            if total == least:
                found.append(lot)
    return least, found


def _lots_for(table, custom, prices, cover, most):
    """Pairs of the sum and the lot of cures for a cover, among which are the least ones of each sum up to the most."""
    forced, arcs = _between(table, custom, cover)
    start = _sum_of(prices, forced)
    costs = {arc: sum([_sum_of(prices, bundle) for bundle in bundles]) for arc, bundles in arcs.items()}
    found = []
    for cost, struck in _ways_to_part(costs, most - start):
        lot = forced + [tie for arc in struck for bundle in arcs[arc] for tie in bundle]
        kept = [bundle for arc, bundles in arcs.items() if arc not in struck for bundle in bundles]
        free = [bundle for bundle in kept if _sum_of(prices, bundle) == 0]
        found.append((start + cost, _with_free(sorted(lot), free)))
    return found


def _sum_of(prices, lot):
    return sum([prices[tie] for tie in lot])


def _between(table, custom, cover):
    """The pair of the list of ties that must be struck for a cover, and the dict from arcs to bundles."""
    part_of_person = {person: at for at, part in enumerate(cover) for person in part[0]}
    part_of_thing = {thing: at for at, part in enumerate(cover) for thing in part[1]}
    forced = []
    bundles = {}
    for person, thing in ties(table):
        at = part_of_thing[thing]
        if at != part_of_person[person]:
            # By "anew" everybody may get all things of a piece or none, looking ahead whatever there is.
            key = (person, at) if custom == "anew" else (person, at, thing)
            bundles.setdefault(key, []).append((person, thing))
        elif (person, thing) not in cover[at][2]:
            forced.append((person, thing))
    arcs = {}
    for key, bundle in bundles.items():
        if custom == "anew" and len(bundle) < len(cover[key[1]][1]):
            forced.extend(bundle)
        else:
            arcs.setdefault((part_of_person[key[0]], key[1]), []).append(bundle)
    return forced, arcs


def _ways_to_part(costs, most):
    """Pairs of the cost and the arcs to strike so that no arcs lead round, for a cost of at most so much.

    Among them is, just once, each lot of arcs of which all are needed.
    """
    found = []
    waiting = [((), (), 0)]
    while waiting:
        struck, kept, cost = waiting.pop()
        if cost > most:
            continue
        way = _shortest_round([arc for arc in costs if arc not in struck])
        if way is None:
            found.append((cost, struck))
            continue
        # One arc of the round must be struck: this one, and none of those ahead of it.
        for at, arc in enumerate(way):
            if arc not in kept:
                waiting.append((struck + (arc,), kept + way[:at], cost + costs[arc]))
    return found


def _shortest_round(arcs):
    """The arcs of a shortest way round, a tuple, or None."""
    best = None
    for start, end in arcs:
        way = _shortest_way(arcs, end, start)
        if way is not None and (best is None or len(way) + 1 < len(best)):
            best = ((start, end),) + way
    return best


def _shortest_way(arcs, start, end):
    """The arcs of a shortest way from a start to an end, a tuple, or None."""
    ways = {start: ()}
    waiting = [start]
    while waiting and end not in ways:
        behind = []
        for arc in arcs:
            if arc[0] in waiting and arc[1] not in ways:
                ways[arc[1]] = ways[arc[0]] + (arc,)
                behind.append(arc[1])
        waiting = behind
    return ways.get(end)


def _with_free(lot, bundles):
    """The least lot made of an ascending one and of some of the bundles that cost nothing."""
    # Put in it makes a lot less if something greater stands behind it, and else greater.
    free = [bundle for bundle in bundles if lot and bundle[0] < lot[-1]]
    while free:
        lot = sorted(lot + [tie for bundle in free for tie in bundle])
        free = [bundle for bundle in bundles if bundle[0] < lot[-1] and bundle[0] not in lot]
    return tuple(lot)
