"""What can have been drawn in a turn looking ahead, and what comes of it.

STEPS are here a dict from the lots of things that can have been drawn by the first people, fewer things first,
to dicts: from the things that are open then for the person who comes up to the lots behind them.
"""

from fullorring.matching import live_rows
from fullorring.standings import left_of, with_drawn


def steps_of(table, turn):
    """The steps of a turn; the table has a dealing."""
    steps = {}
    lots = [()]
    for at in range(table.size):
        rows = [table.rows[person] for person in turn[at:]]
        behind = []
        for lot in lots:
            choices = live_rows([left_of(row, lot) for row in rows])[0]
            steps[lot] = {thing: tuple(sorted([*lot, thing])) for thing in choices}
            behind.extend(list(steps[lot].values()))
        lots = sorted(set(behind))
    steps[tuple(range(table.size))] = {}
    return steps


def many_by_lot(steps):
    """The dict from the lots to the numbers of dealings behind them."""
    many = {}
    for lot in reversed(list(steps)):
        many[lot] = sum([many[one] for one in steps[lot].values()]) if steps[lot] else 1
    return many


def standing_by_lot(steps, turn):
    """The dict from the lots to a standing in which the first people of the turn have drawn the lot."""
    found = {(): (None,) * len(turn)}
    for lot in steps:
        for thing, one in steps[lot].items():
            found[one] = with_drawn(found[lot], turn[len(lot)], thing)
    return found
