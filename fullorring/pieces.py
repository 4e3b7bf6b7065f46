"""Idle ties, and the pieces to which the others hang people and things together."""

from fullorring.checks import check_person, check_thing, is_ascending, is_number
from fullorring.errors import NoNumber, NoRing, NoTie, Stuck
from fullorring.matching import groups, live_rows, matched, people_of, reaches, rows_of, things_of
from fullorring.tables import ties


def live_of(table):
    """The rows of the ties that are not idle."""
    live = live_rows(table.rows)
    if live is None:
        raise Stuck()
    return live


def idle_ties(table):
    """The ties that are in no dealing."""
    live = live_of(table)
    return [(person, thing) for person, thing in ties(table) if thing not in live[person]]


def sure_ties(table):
    """The ties that are in all dealings."""
    return [(person, row[0]) for person, row in enumerate(live_of(table)) if len(row) == 1]


def filled_lot(table, person, thing):
    """People without this one who may get just as many things as they are, this one among them, or None."""
    held = _held_for_tie(table, person, thing)
    lot = people_of(reaches(table.rows, held)[held.index(thing)])
    return None if person in lot else lot


def is_filled_lot(table, person, thing, lot):
    """Whether it is a filled lot for a tie."""
    _held_for_tie(table, person, thing)
    if not is_ascending(table.size, lot) or person in lot:
        return False
    things = things_of(rows_of(table.rows, lot))
    return len(things) == len(lot) and thing in things


def _held_for_tie(table, person, thing):
    """What each holds in some dealing of a table with this tie."""
    check_person(table, person)
    check_thing(table, thing)
    if thing not in table.rows[person]:
        raise NoTie()
    held = matched(table.rows)
    if None in held:
        raise Stuck()
    return held


def pieces(table):
    """The ascending list of the pairs of the people and the things of each piece."""
    live = live_of(table)
    return [(tuple(people), tuple(things_of(rows_of(live, people)))) for people in groups(live)]


def piece_kinds(table):
    """The list with "full", "ring" or "other" for each piece."""
    live = live_of(table)
    return [_kind_of(live, people) for people in groups(live)]


def _kind_of(live, people):
    # Within a piece no tie is idle: the live rows have all of them.
    if all([len(live[person]) == len(people) for person in people]):
        return "full"
    return "ring" if _is_ring(live, people) else "other"


def _is_ring(live, people):
    """Whether each of the people has two things and each thing two people."""
    given = [thing for person in people for thing in live[person]]
    return all([len(live[person]) == 2 for person in people]) and all([given.count(thing) == 2 for thing in given])


def round_of(table, number):
    """The people and things of a ring, one behind another."""
    live = live_of(table)
    found = groups(live)
    if not is_number(len(found), number):
        raise NoNumber()
    if _kind_of(live, found[number]) != "ring":
        raise NoRing()
    return _round_from(live, found[number][0])


def _round_from(live, start):
    found = []
    person = start
    thing = live[start][0]
    while len(found) == 0 or person != start:
        found.extend([person, thing])
        person = _other_person(live, person, thing)
        thing = _other_thing(live, person, thing)
    return tuple(found)


def _other_person(live, person, thing):
    """The person beside this one who may get the thing, too."""
    return [one for one, row in enumerate(live) if one != person and thing in row][0]


def _other_thing(live, person, thing):
    """The thing beside this one that the person may get, too."""
    return [one for one in live[person] if one != thing][0]
