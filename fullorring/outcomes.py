"""Outcomes: what comes where things of one look are copies.

The SHARE of a dealing is 1 divided by its bottom (walks.py), but 1 for "strict", by which each dealing is alike
likely; that of an outcome is the sum of those of its dealings.
"""

from fullorring.checks import is_integer
from fullorring.matching import live_rows, matched
from fullorring.ratios import plus, times
from fullorring.walks import behind, many_choices, parts_of, rows_in_turn


def is_possible(table, looks, thing):
    """Whether it is a tuple of looks for the people, that of some dealing."""
    if not isinstance(thing, tuple) or len(thing) != table.size:
        return False
    # A flag is no look, though it equals one.
    if not all([is_integer(look) for look in thing]):
        return False
    rows = [[one for one in row if looks[one] == look] for row, look in zip(table.rows, thing)]
    return None not in matched(rows)


def shares_of(table, looks, turn, custom):
    """The dict from all outcomes to their shares."""
    found = _shares(rows_in_turn(table, turn), looks, custom, {})
    places = [turn.index(person) for person in range(table.size)]
    return {tuple([lot[place] for place in places]): share for lot, share in found.items()}


def _shares(rows, looks, custom, known):
    """The dict from the tuples of looks for the people of the rows, in their order, to the shares."""
    found = {(None,) * len(rows): (1, 1)}
    for places, things, part in parts_of(rows, custom):
        told = _shares_of_part(part, tuple([looks[thing] for thing in things]), custom, known)
        found = {
            _put_in(lot, places, own): times(share, share_too)
            for lot, share in found.items() for own, share_too in told.items()
        }
    return found


def _put_in(lot, places, own):
    """The tuple with the looks of a part at its places."""
    at = {place: look for place, look in zip(places, own)}
    return tuple([at.get(place, look) for place, look in enumerate(lot)])


def _shares_of_part(rows, looks, custom, known):
    key = (rows, looks)
    if key not in known:
        share = (1, 1 if custom == "strict" else many_choices(rows, custom))
        found = {}
        for thing in live_rows(rows)[0]:
            for lot, share_behind in _shares(behind(rows, thing), looks, custom, known).items():
                whole = (looks[thing],) + lot
                found[whole] = plus(found.get(whole, (0, 1)), times(share, share_behind))
        known[key] = found
    return known[key]
