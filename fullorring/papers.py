"""Papers, which show that a table is always even looking ahead."""

from fullorring.checks import is_ascending, is_numbers, is_tie
from fullorring.even import always_even
from fullorring.pieces import filled_lot, idle_ties, is_filled_lot, live_of, piece_kinds, pieces, round_of
from fullorring.tables import ties

FEWEST_IN_RING = 3


def paper(table):
    """A whole paper, or None."""
    if not always_even(table, "ahead"):
        return None
    kinds = piece_kinds(table)
    parts = [_part(table, number, kinds[number], piece) for number, piece in enumerate(pieces(table))]
    return tuple(parts), {(person, thing): filled_lot(table, person, thing) for person, thing in idle_ties(table)}


def _part(table, number, kind, piece):
    if kind == "ring":
        return "ring", round_of(table, number)
    return "full", piece[0], piece[1]


def is_paper(table, thing):
    """Whether it is a whole paper."""
    live_of(table)
    if not isinstance(thing, tuple) or len(thing) != 2:
        return False
    parts, idle = thing
    if not isinstance(parts, tuple) or not isinstance(idle, dict):
        return False
    if not all([_is_part(table.size, part) for part in parts]) or not _are_all_once(table.size, parts):
        return False
    if not all([is_tie(table, tie) and is_filled_lot(table, tie[0], tie[1], idle[tie]) for tie in idle]):
        return False
    steps = [tie for part in parts for tie in _ties_of(part)]
    own = ties(table)
    return all([tie in own for tie in steps]) and all([tie in steps or tie in idle for tie in own])


def _is_part(size, part):
    if not isinstance(part, tuple) or len(part) not in (2, 3):
        return False
    if len(part) == 2:
        return part[0] == "ring" and _is_round(size, part[1])
    return part[0] == "full" and _is_full(size, part[1], part[2])


def _is_full(size, people, things):
    if not is_ascending(size, people) or not is_ascending(size, things):
        return False
    return len(people) == len(things) and len(people) > 0


def _is_round(size, steps):
    return is_numbers(size, steps) and len(steps) % 2 == 0 and len(steps) >= 2 * FEWEST_IN_RING


def _are_all_once(size, parts):
    """Whether the people of the parts, and their things, are all, each once."""
    people = [person for part in parts for person in _people_of(part)]
    things = [thing for part in parts for thing in _things_of(part)]
    return sorted(people) == list(range(size)) and sorted(things) == list(range(size))


def _people_of(part):
    return part[1] if part[0] == "full" else part[1][::2]


def _things_of(part):
    return part[2] if part[0] == "full" else part[1][1::2]


def _ties_of(part):
    """The ties of a full piece, or the steps of a round."""
    people = _people_of(part)
    things = _things_of(part)
    if part[0] == "full":
        return [(person, thing) for person in people for thing in things]
    # Between a person and the next one stands the thing of both.
    return list(zip(people, things)) + list(zip(people[1:] + people[:1], things))
