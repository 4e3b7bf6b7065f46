"""When dealings are told: behind how many draws, and by the things of which people.

A dealing is told behind the last draw of somebody who has more than one open thing. TOLDS are a dict from numbers
of draws to the sum of the shares of the dealings that are told behind just so many. The share of a dealing is 1
divided by its bottom (walks.py), but 1 for "strict", by which each dealing is alike likely.
"""

from fullorring.matching import live_rows, matched, narrowed, owners
from fullorring.ratios import plus, times
from fullorring.walks import behind, many_choices, parts_of, rows_in_turn


def tolds_of(table, turn, custom):
    """The tolds of a turn."""
    return _tolds(rows_in_turn(table, turn), tuple(range(1, table.size + 1)), custom, {})


def _tolds(rows, numbers, custom, known):
    """The tolds of rows, the numbers being those of the draws of their people."""
    found = {0: (1, 1)}
    for places, _, part in parts_of(rows, custom):
        found = _joined(found, _tolds_of_part(part, tuple([numbers[place] for place in places]), custom, known))
    return found


def _tolds_of_part(rows, numbers, custom, known):
    key = (rows, numbers)
    if key not in known:
        choices = live_rows(rows)[0]
        least = numbers[0] if len(choices) > 1 else 0
        share = (1, 1 if custom == "strict" else many_choices(rows, custom))
        found = {}
        for thing in choices:
            told = _tolds(behind(rows, thing), numbers[1:], custom, known)
            for number, share_behind in told.items():
                _add(found, max(least, number), times(share, share_behind))
        known[key] = found
    return known[key]


def _joined(one, other):
    """The tolds of two parts together."""
    found = {}
    for number, share in one.items():
        for number_too, share_too in other.items():
            _add(found, max(number, number_too), times(share, share_too))
    return found


def _add(tolds, number, share):
    tolds[number] = plus(tolds.get(number, (0, 1)), share)


def loose_people(rows, people):
    """People whose things can go round among them while these people keep theirs, or None.

    The rows are live; it is None if the things of these people always tell the whole dealing.
    """
    seen = set()
    waiting = [rows]
    while waiting:
        live = waiting.pop()
        drawing = [person for person in people if len(live[person]) > 1]
        if not drawing:
            loose = [person for person, row in enumerate(live) if len(row) > 1]
            if loose:
                return _round_through(live, loose[0])
            continue
        for thing in live[drawing[0]]:
            after = live_rows(narrowed(live, drawing[0], thing))
            # Which things the settled ones hold does not matter for the others.
            key = tuple([() if len(row) == 1 else tuple(row) for row in after])
            if key not in seen:
                seen.add(key)
                waiting.append(after)
    return None


def _round_through(live, start):
    """As few people as can be, this one among them, whose things can go round among them."""
    held = matched(live)
    owner = owners(held)
    ways = {owner[thing]: (start,) for thing in live[start] if thing != held[start]}
    waiting = list(ways)
    while start not in ways:
        after = []
        for person in waiting:
            for other in [owner[thing] for thing in live[person]]:
                if other not in ways:
                    ways[other] = ways[person] + (person,)
                    after.append(other)
        waiting = after
    return tuple(sorted(ways[start]))
