"""Going through a turn, person by person.

ROWS are here those of the people who have not drawn, in the order in which they come up, with the things
that are left to each; some dealing is always left. The BOTTOM of a dealing is the numbers of things among
which each draws, multiplied: 1 divided by it is the chance that it comes without beginning anew.
"""

from fullorring.matching import groups, live_rows, rows_of, things_of
from fullorring.ratios import lowest, plus, times

CUSTOMS = ("ahead", "near", "anew", "strict")


def rows_in_turn(table, turn):
    """The rows in the order of the turn."""
    return [table.rows[person] for person in turn]


def behind(rows, thing):
    """The rows behind the drawing of a thing by the first one."""
    return [tuple([left for left in row if left != thing]) for row in rows[1:]]


def many_choices(rows, custom):
    """Among how many things the first one draws."""
    if custom == "strict":
        return len(rows)
    if custom == "ahead":
        return len(live_rows(rows)[0])
    if custom == "near":
        return len([thing for thing in rows[0] if not _leaves_nothing(rows, thing)])
    return len(rows[0])


def _leaves_nothing(rows, thing):
    """Whether one of the others has nothing left if the first one draws the thing."""
    return any([len(row) == 1 and thing in row for row in rows[1:]])


def bottom_of(table, turn, custom, dealing):
    """The bottom of a dealing."""
    bottom = 1
    rows = rows_in_turn(table, turn)
    for person in turn:
        bottom *= many_choices(rows, custom)
        rows = behind(rows, dealing[person])
    return bottom


def parts_of(rows, custom):
    """What is drawn apart from one another by any custom but "strict".

    Triples of the places of the people in the rows, of their things, and of their own rows, in which the
    things are renumbered in order, so that parts which are alike become equal.
    """
    # By the other customs a tie that is idle counts among the things left, so that it hangs together, too.
    hanging = live_rows(rows) if custom == "ahead" else rows
    return [_part(hanging, places) for places in groups(hanging)]


def _part(rows, places):
    things = things_of(rows_of(rows, places))
    at = {thing: number for number, thing in enumerate(things)}
    return places, things, tuple([tuple([at[thing] for thing in rows[place]]) for place in places])


def total_of(rows, custom, mark, known):
    """The chance that all draw without beginning anew, by any custom but "strict".

    The MARK is None, or the place of a person and a thing: then the chance that this person draws it, too.
    KNOWN is a dict that keeps what was found out within one call.
    """
    total = (1, 1)
    for places, things, part in parts_of(rows, custom):
        total = times(total, _total_of_part(part, custom, _mark_within(mark, places, things), known))
    return total


def _mark_within(mark, places, things):
    """The mark by the numbers within a part, None if the person is not of it."""
    if mark is None or mark[0] not in places:
        return None
    return places.index(mark[0]), things.index(mark[1]) if mark[1] in things else -1


def _total_of_part(rows, custom, mark, known):
    if custom == "ahead" and mark is None:
        return 1, 1
    key = (rows, mark)
    if key not in known:
        total = (0, 1)
        for thing in _marked_things(live_rows(rows)[0], mark):
            total = plus(total, total_of(behind(rows, thing), custom, _mark_behind(mark), known))
        known[key] = lowest(total[0], total[1] * many_choices(rows, custom))
    return known[key]


def _marked_things(row, mark):
    """The things that the first one may draw as the mark wants it."""
    if mark is None:
        return row
    return [thing for thing in row if (thing == mark[1]) == (mark[0] == 0)]


def _mark_behind(mark):
    return None if mark is None or mark[0] == 0 else (mark[0] - 1, mark[1])
