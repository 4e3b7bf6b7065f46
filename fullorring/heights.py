"""Heights, which bound how likely a dealing can be looking ahead."""

from fullorring.checks import check_turn
from fullorring.errors import NoFraction, TooMany
from fullorring.lots import steps_of
from fullorring.pieces import live_of
from fullorring.ratios import is_below, is_fraction, lowest

MOST_PEOPLE = 9


def heights(table, turn):
    """The least heights."""
    check_turn(table, turn)
    live_of(table)
    _check_people(table)
    steps = steps_of(table, turn)
    found = {}
    for lot in reversed(list(steps)):
        found[lot] = _least_height(list(steps[lot].values()), found)
    return found


def _least_height(lots, found):
    """The least height of a lot of which these come by one thing more."""
    if not lots:
        return 1, 1
    highest = (0, 1)
    for lot in lots:
        if is_below(highest, found[lot]):
            highest = found[lot]
    return lowest(highest[0], highest[1] * len(lots))


def is_heights(table, turn, bound, thing):
    """Whether it is heights of which that of the empty lot is at most the bound."""
    check_turn(table, turn)
    live_of(table)
    if not is_fraction(bound):
        raise NoFraction()
    _check_people(table)
    steps = steps_of(table, turn)
    if not isinstance(thing, dict) or len(thing) != len(steps) or not all([lot in thing for lot in steps]):
        return False
    if not all([is_fraction(thing[lot]) for lot in steps]):
        return False
    return all([_is_height(list(steps[lot].values()), lot, thing) for lot in steps]) and not is_below(bound, thing[()])


def _is_height(lots, lot, found):
    """Whether a lot of which these come by one thing more has a height by those of them."""
    if not lots:
        return found[lot] == (1, 1)
    top, bottom = found[lot]
    return not any([is_below((top * len(lots), bottom), found[one]) for one in lots])


def _check_people(table):
    if table.size > MOST_PEOPLE:
        raise TooMany(MOST_PEOPLE)
