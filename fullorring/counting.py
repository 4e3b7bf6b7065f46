"""How many dealings rows have, and which.

KNOWN is a dict that keeps the numbers that were counted within one call, so that none is counted twice.
"""

from fullorring.matching import groups, live_rows, narrowed, rows_of, things_of


def many_of(rows, known):
    """How many dealings there are."""
    live = live_rows(rows)
    if live is None:
        return 0
    many = 1
    for people in groups(live):
        many *= _many_of_group(tuple([tuple(row) for row in rows_of(live, people)]), known)
    return many


def _many_of_group(rows, known):
    if rows not in known:
        known[rows] = _many_in_order(_in_order(rows))
    return known[rows]


def _in_order(rows):
    """The rows, each next one with the fewest things that are not in those ahead."""
    # The fewer things are begun at once, the fewer ways to have used them must be told apart.
    begun = {}
    left = list(rows)
    ordered = []
    while left:
        row = min(left, key=lambda one: _many_new(one, begun))
        left.remove(row)
        ordered.append(row)
        begun.update({thing: True for thing in row})
    return ordered


def _many_new(row, begun):
    return len([thing for thing in row if thing not in begun])


def _many_in_order(rows):
    """The number of dealings, counted person by person.

    Of things that the same people may get it matters only how many are used: a STATE is an integer with
    a place for each such heap of things, in which it counts the used ones.
    """
    heaps = _heaps(rows)
    states = {0: 1}
    for person in range(len(rows)):
        choices = [(place, most) for people, place, most in heaps if person in people]
        ends = [(place, most) for people, place, most in heaps if people[-1] == person]
        states = _states_behind(states, choices, ends)
    return sum(list(states.values()))


def _heaps(rows):
    """Triples of the people, the place in a state and the number of the things that just they may get."""
    many = {}
    for thing in things_of(rows):
        people = tuple([person for person, row in enumerate(rows) if thing in row])
        many[people] = many.get(people, 0) + 1
    heaps = []
    place = 1
    for people, most in many.items():
        heaps.append((people, place, most))
        place *= most + 1
    return heaps


def _states_behind(states, choices, ends):
    """The states behind one person more, with the number of ways to each.

    A heap that ends with this person must be used up: nobody behind may get of it.
    """
    behind = {}
    for state, ways in states.items():
        for place, most in choices:
            left = most - _used(state, place, most)
            if left > 0:
                behind[state + place] = behind.get(state + place, 0) + ways * left
    return {state: ways for state, ways in behind.items() if _are_used_up(state, ends)}


def _used(state, place, most):
    """How many things of a heap of so many are used."""
    return state // place % (most + 1)


def _are_used_up(state, heaps):
    return all([_used(state, place, most) == most for place, most in heaps])


def dealings_of(rows):
    """The ascending list of all dealings."""
    live = live_rows(rows)
    if live is None:
        return []
    found = [[]]
    for people in groups(live):
        parts = _dealings_of_group(rows_of(live, people))
        found = [pairs + list(zip(people, part)) for pairs in found for part in parts]
    return sorted([tuple([thing for _, thing in sorted(pairs)]) for pairs in found])


def _dealings_of_group(live):
    """The dealings of live rows."""
    choosing = [person for person, row in enumerate(live) if len(row) > 1]
    if not choosing:
        return [tuple([row[0] for row in live])]
    found = []
    for thing in live[choosing[0]]:
        found.extend(_dealings_of_group(live_rows(narrowed(live, choosing[0], thing))))
    return found
