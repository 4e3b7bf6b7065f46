"""Standings: what has been drawn, and what is open then."""

from fullorring.checks import check_person, check_thing, is_number
from fullorring.counting import many_of
from fullorring.errors import NoPerson, NoStanding, NoThing
from fullorring.matching import live_rows
from fullorring.tables import table_of


def is_standing(table, thing):
    """Whether it is a tuple with a thing for each who has drawn, a tie and none twice, else None."""
    if not isinstance(thing, tuple) or len(thing) != table.size:
        return False
    drawn = [one for one in thing if one is not None]
    if not all([is_number(table.size, one) for one in drawn]) or len(set(drawn)) < len(drawn):
        return False
    return all([one is None or one in row for one, row in zip(thing, table.rows)])


def is_sound(table, thing):
    """Whether it is a standing all whose things are in some dealing."""
    return is_standing(table, thing) and live_rows(rows_behind(table, thing)) is not None


def rows_behind(table, standing):
    """The rows of what each can have in the end, were it for the things alone that were drawn."""
    return [
        left_of(row, standing) if own is None else [own]
        for row, own in zip(table.rows, standing)
    ]


def table_behind(table, standing):
    """The table of these rows."""
    return table_of(tuple([tuple(row) for row in rows_behind(table, standing)]))


def left_of(row, standing):
    """The things of a row that nobody has drawn."""
    return [thing for thing in row if thing not in standing]


def with_drawn(standing, person, thing):
    """The standing behind one person's drawing more."""
    return standing[:person] + (thing,) + standing[person + 1:]


def many_after(table, standing):
    """How many dealings have all things of a standing."""
    _check_standing(table, standing)
    return many_of(rows_behind(table, standing), {})


def open_things(table, standing, person):
    """The things with which the standing, this person having drawn, is sound."""
    _check_standing(table, standing)
    _check_to_draw(table, standing, person)
    live = live_rows(rows_behind(table, standing))
    return [] if live is None else live[person]


def left_things(table, standing, person):
    """The things that nobody has drawn and that the person may get."""
    _check_standing(table, standing)
    _check_to_draw(table, standing, person)
    return left_of(table.rows[person], standing)


def open_people(table, standing, thing):
    """The people who can draw the thing so that the standing is sound then."""
    _check_standing(table, standing)
    check_thing(table, thing)
    if thing in standing:
        raise NoThing()
    live = live_rows(rows_behind(table, standing))
    return [] if live is None else [person for person, row in enumerate(live) if thing in row]


def settled(table, standing):
    """The dict from all people who have one thing in all dealings behind, to this thing."""
    live = _live_behind(table, standing)
    return {person: row[0] for person, row in enumerate(live) if len(row) == 1}


def known_of(table, standing, person):
    """The things that the person can still get, or has got."""
    live = _live_behind(table, standing)
    check_person(table, person)
    return live[person]


def _live_behind(table, standing):
    """The live rows behind a sound standing."""
    _check_standing(table, standing)
    live = live_rows(rows_behind(table, standing))
    if live is None:
        raise NoStanding()
    return live


def _check_standing(table, standing):
    if not is_standing(table, standing):
        raise NoStanding()


def _check_to_draw(table, standing, person):
    check_person(table, person)
    if standing[person] is not None:
        raise NoPerson()
