"""The number of dealings, and the dealings by their numbers."""

from fullorring.checks import is_number, is_pair
from fullorring.counting import dealings_of, many_of
from fullorring.dealings import is_dealing
from fullorring.errors import NoDealing, NoLot, NoNumber, TooMany
from fullorring.matching import narrowed

MOST_LISTED = 5000


def many_dealings(table):
    """How many dealings there are."""
    return many_of(table.rows, {})


def dealing_at(table, number):
    """The dealing with a number in ascending order."""
    known = {}
    if not is_number(many_of(table.rows, known), number):
        raise NoNumber()
    rows = table.rows
    for person in range(table.size):
        rows, number = _step_to(rows, person, number, known)
    return tuple([row[0] for row in rows])


def _step_to(rows, person, number, known):
    """The rows in which the person has the thing of the dealing with a number, and its number there."""
    for thing in rows[person]:
        behind = narrowed(rows, person, thing)
        many = many_of(behind, known)
        if number < many:
            break
        number -= many
    return behind, number


def dealing_number(table, dealing):
    """The number of a dealing in ascending order."""
    if not is_dealing(table, dealing):
        raise NoDealing()
    known = {}
    rows = table.rows
    number = 0
    for person, own in enumerate(dealing):
        for thing in rows[person]:
            if thing < own:
                number += many_of(narrowed(rows, person, thing), known)
        rows = narrowed(rows, person, own)
    return number


def many_with(table, lot):
    """How many dealings have all pairs of a lot."""
    if not _is_lot(table, lot):
        raise NoLot()
    rows = table.rows
    for person, thing in lot:
        if thing not in rows[person]:
            return 0
        rows = narrowed(rows, person, thing)
    return many_of(rows, {})


def _is_lot(table, thing):
    return isinstance(thing, (list, tuple)) and all([is_pair(table, one) for one in thing])


def all_dealings(table):
    """The ascending list of all dealings."""
    if many_dealings(table) > MOST_LISTED:
        raise TooMany(MOST_LISTED)
    return dealings_of(table.rows)
