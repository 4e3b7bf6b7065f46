"""All bottoms of the dealings of a turn (walks.py tells what they are).

A SPREAD is a dict from bottoms to pairs: how many dealings have this bottom, and the least LOT of these, the
ascending tuple of the pairs of a person and a thing. It is TRIMMED if it holds the least and the greatest
bottom alone.
"""

from math import factorial

from fullorring.dealings import dealing
from fullorring.matching import live_rows
from fullorring.numbers import many_dealings
from fullorring.walks import behind, many_choices, parts_of, rows_in_turn


def bottoms_of(table, turn, custom, is_trimmed):
    """The ascending list of triples: a bottom, how many dealings have it, and the least of these.

    Trimmed it holds the least and the greatest bottom alone.
    """
    if custom == "strict":
        return [(factorial(table.size), many_dealings(table), dealing(table))]
    spread = spread_of(rows_in_turn(table, turn), turn, custom, is_trimmed, {})
    return [
        (bottom, many, tuple([thing for _, thing in lot]))
        for bottom, (many, lot) in sorted(list(spread.items()))
    ]


def spread_of(rows, people, custom, is_trimmed, known):
    """The spread by any custom but "strict", the people being those of the rows."""
    found = {1: (1, ())}
    for places, things, part in parts_of(rows, custom):
        own = sorted([people[place] for place in places])
        order = tuple([own.index(people[place]) for place in places])
        told = _spread_of_part(part, order, custom, is_trimmed, known)
        found = _joined(found, _renamed(told, own, things))
        if is_trimmed:
            found = _trimmed(found)
    return found


def _spread_of_part(rows, order, custom, is_trimmed, known):
    key = (rows, order)
    if key not in known:
        found = {}
        choices = many_choices(rows, custom)
        for thing in live_rows(rows)[0]:
            told = spread_of(behind(rows, thing), order[1:], custom, is_trimmed, known)
            for bottom, (many, lot) in told.items():
                _add(found, bottom * choices, many, _together(lot, ((order[0], thing),)))
        known[key] = _trimmed(found) if is_trimmed else found
    return known[key]


def _renamed(spread, people, things):
    return {
        bottom: (many, tuple([(people[person], things[thing]) for person, thing in lot]))
        for bottom, (many, lot) in spread.items()
    }


def _joined(one, other):
    """The spread of two parts together."""
    found = {}
    for bottom, (many, lot) in one.items():
        for bottom_too, (many_too, lot_too) in other.items():
            _add(found, bottom * bottom_too, many * many_too, _together(lot, lot_too))
    return found


def _together(lot, lot_too):
    return tuple(sorted(lot + lot_too))


def _add(spread, bottom, many, lot):
    if bottom in spread:
        many_before, lot_before = spread[bottom]
        many, lot = many + many_before, min(lot, lot_before)
    spread[bottom] = (many, lot)


def _trimmed(spread):
    ends = (min(list(spread)), max(list(spread)))
    return {bottom: spread[bottom] for bottom in ends}
