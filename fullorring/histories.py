"""What is drawn by a book at one history.

A DRAW is here a triple: the history, the standing behind it, and the live rows behind that.
"""

from fullorring.checks import is_tie
from fullorring.matching import live_rows
from fullorring.standings import is_sound, rows_behind, with_drawn


def first_draw(table):
    """The draw in which nobody has drawn; the table has a dealing."""
    return _draw_of(table, (), (None,) * table.size)


def draw_behind(table, draw, pair):
    """The draw behind one pair of a person and an open thing more."""
    history, standing, _ = draw
    return _draw_of(table, history + (pair,), with_drawn(standing, pair[0], pair[1]))


def _draw_of(table, history, standing):
    return history, standing, live_rows(rows_behind(table, standing))


def draw_at(table, thing):
    """The draw of a history, None for what is none."""
    if not isinstance(thing, tuple) or not all([is_tie(table, pair) for pair in thing]):
        return None
    standing = (None,) * table.size
    for person, own in thing:
        if standing[person] is not None:
            return None
        standing = with_drawn(standing, person, own)
    return _draw_of(table, thing, standing) if is_sound(table, standing) else None


def comer_at(book, draw):
    """Who comes up next; not all have drawn."""
    told = _told(book, draw)
    return ("person", _people_left(draw)[0]) if told is None else told


def pairs_at(book, draw):
    """The pairs of a person and a thing of which one is drawn next."""
    kind, number = comer_at(book, draw)
    live = draw[2]
    if kind == "person":
        return [(number, thing) for thing in live[number]]
    return [(person, number) for person, row in enumerate(live) if number in row]


def _people_left(draw):
    return [person for person, own in enumerate(draw[1]) if own is None]


def _is_left(comer, standing):
    """Whether this person has not drawn, or this thing was not drawn."""
    if comer[0] == "person":
        return standing[comer[1]] is None
    return comer[1] not in standing


def _told(book, draw):
    """Whom the book tells, or None for nobody."""
    word = book[0]
    if word == "row":
        return _first_left(book[1], draw[1])
    if word == "if":
        return _told(book[2] if _holds(book[1], draw) else book[3], draw)
    if word == "else":
        told = _told(book[1], draw)
        return _told(book[2], draw) if told is None else told
    if word == "named":
        return _first_left([("person", thing) for _, thing in draw[0][-1:]], draw[1])
    if word == "giver":
        return _first_left([("thing", person) for person, _ in draw[0][-1:]], draw[1])
    return "person", _by_many_open(draw, word)


def _first_left(comers, standing):
    for comer in comers:
        if _is_left(comer, standing):
            return comer
    return None


def _by_many_open(draw, word):
    """The least person of those left who has the fewest, or the most, open things."""
    live = draw[2]
    sign = 1 if word == "fewest" else -1
    return min(_people_left(draw), key=lambda person: sign * len(live[person]))


def _holds(condition, draw):
    """Whether the condition holds."""
    history, standing, live = draw
    word = condition[0]
    if word == "not":
        return not _holds(condition[1], draw)
    if word == "has":
        return standing[condition[1]] == condition[2]
    if word == "drawn":
        return condition[1] in standing
    if word == "after":
        return len(history) >= condition[1]
    return standing[condition[1]] is None and condition[2] in live[condition[1]]
