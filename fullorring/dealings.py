"""Dealings, and why there may be none."""

from fullorring.checks import is_ascending
from fullorring.matching import live_rows, matched, narrowed, people_of, reaches, rows_of, things_of
from fullorring.standings import is_standing


def dealing(table):
    """The least dealing, or None."""
    live = live_rows(table.rows)
    if live is None:
        return None
    for person in range(table.size):
        if len(live[person]) > 1:
            live = live_rows(narrowed(live, person, live[person][0]))
    return tuple([row[0] for row in live])


def is_dealing(table, thing):
    """Whether it is a tuple with a thing for each person that they may get, no thing twice."""
    return is_standing(table, thing) and None not in thing


def short_lot(table):
    """People who may get, all together, fewer things than they are, or None."""
    held = matched(table.rows)
    if None not in held:
        return None
    return people_of(reaches(table.rows, held)[held.index(None)])


def is_short_lot(table, thing):
    """Whether it is an ascending tuple of people who may get, all together, fewer things than they are."""
    return is_ascending(table.size, thing) and len(things_of(rows_of(table.rows, thing))) < len(thing)
