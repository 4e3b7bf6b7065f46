"""Whether some book is even: plans, and bars, which show that there is none.

A STAND is here a pair: a standing, and the list of the dealings that have all that was drawn. KNOWN is a dict
from standings to a comer with whom a plan can go on, or None; it is filled within one call.
"""

from fullorring.checks import is_comer, is_integer
from fullorring.counting import dealings_of
from fullorring.errors import TooMany
from fullorring.pieces import live_of
from fullorring.standings import with_drawn

MOST_PEOPLE = 6


def plan(table):
    """An even plan, or None."""
    return _plan_by(table, ("person", "thing"))


def people_plan(table):
    """An even plan in which people alone come up, or None."""
    return _plan_by(table, ("person",))


def _plan_by(table, kinds):
    stand = _first_stand(table)
    known = {}
    if _planned(stand, kinds, known) is None:
        return None
    found = {}
    waiting = [stand]
    while waiting:
        stand = waiting.pop()
        if None in stand[0] and stand[0] not in found:
            found[stand[0]] = known[stand[0]]
            waiting.extend(list(_choices(stand, known[stand[0]]).values()))
    return found


def _first_stand(table):
    live_of(table)
    if table.size > MOST_PEOPLE:
        raise TooMany(MOST_PEOPLE)
    return (None,) * table.size, dealings_of(table.rows)


def _comers_left(standing, kinds):
    """Who has not drawn, and was not drawn, of these kinds."""
    people = [("person", person) for person, own in enumerate(standing) if own is None]
    things = [("thing", thing) for thing in range(len(standing)) if thing not in standing]
    return [comer for comer in people + things if comer[0] in kinds]


def _choices(stand, comer):
    """The dict from what is open for a comer to the stands behind it."""
    standing, lots = stand
    kind, number = comer
    parts = {}
    for lot in lots:
        parts.setdefault(lot[number] if kind == "person" else lot.index(number), []).append(lot)
    if kind == "person":
        return {thing: (with_drawn(standing, number, thing), parts[thing]) for thing in parts}
    return {person: (with_drawn(standing, person, number), parts[person]) for person in parts}


def _are_alike_many(choices):
    """Whether there are equally many dealings behind all choices."""
    many = [len(lots) for _, lots in choices.values()]
    return min(many) == max(many)


def _planned(stand, kinds, known):
    """A comer with whom an even plan can go on, "end" where all have drawn, or None."""
    standing = stand[0]
    if None not in standing:
        return "end"
    if standing not in known:
        known[standing] = None
        for comer in _comers_left(standing, kinds):
            choices = _choices(stand, comer)
            if _are_alike_many(choices) and _are_planned(list(choices.values()), kinds, known):
                known[standing] = comer
                break
    return known[standing]


def _are_planned(stands, kinds, known):
    for stand in stands:
        if _planned(stand, kinds, known) is None:
            return False
    return True


def is_plan(table, thing):
    """Whether it is an even plan."""
    first = _first_stand(table)
    if not isinstance(thing, dict):
        return False
    came = {}
    waiting = [first]
    while waiting:
        stand = waiting.pop()
        if None not in stand[0] or stand[0] in came:
            continue
        came[stand[0]] = True
        if stand[0] not in thing or not _is_comer_left(table, thing[stand[0]], stand[0]):
            return False
        choices = _choices(stand, thing[stand[0]])
        if not _are_alike_many(choices):
            return False
        waiting.extend(list(choices.values()))
    return len(came) == len(thing)


def _is_comer_left(table, comer, standing):
    return is_comer(table, comer) and comer in _comers_left(standing, ("person", "thing"))


def plan_bar(table):
    """A bar for the standing in which nobody has drawn, or None."""
    stand = _first_stand(table)
    known = {}
    if _planned(stand, ("person", "thing"), known) is not None:
        return None
    return _bar_of(stand, known)


def _bar_of(stand, known):
    """A bar for a stand for which there is no plan."""
    found = {}
    for comer in _comers_left(stand[0], ("person", "thing")):
        choices = _choices(stand, comer)
        one = max(list(choices), key=lambda choice: len(choices[choice][1]))
        other = min(list(choices), key=lambda choice: len(choices[choice][1]))
        if _are_alike_many(choices):
            found[comer] = _then(choices, known)
        else:
            found[comer] = ("unlike", one, other)
    return found


def _then(choices, known):
    """Behind one of the choices there is no plan: this one, and the bar behind it."""
    for choice, stand in choices.items():
        if _planned(stand, ("person", "thing"), known) is None:
            return "then", choice, _bar_of(stand, known)
    return None


def is_plan_bar(table, thing):
    """Whether it is a bar for the standing in which nobody has drawn."""
    waiting = [(_first_stand(table), thing)]
    while waiting:
        stand, bar = waiting.pop()
        inner = _bars_inside(stand, bar)
        if inner is None:
            return False
        waiting.extend(inner)
    return True


def _bars_inside(stand, bar):
    """The pairs of a stand and what should be a bar for it, straight inside; None for what is no bar anyway."""
    comers = _comers_left(stand[0], ("person", "thing"))
    if not isinstance(bar, dict) or len(comers) == 0 or len(bar) != len(comers):
        return None
    found = []
    for comer in comers:
        if comer not in bar or not _is_entry(_choices(stand, comer), bar[comer]):
            return None
        if bar[comer][0] == "then":
            found.append((_choices(stand, comer)[bar[comer][1]], bar[comer][2]))
    return found


def _is_entry(choices, entry):
    """Whether it is "unlike" with two unlike choices, or "then" with a choice and something."""
    if not isinstance(entry, tuple) or len(entry) != 3 or not _is_choice(choices, entry[1]):
        return False
    if entry[0] == "then":
        return True
    if entry[0] != "unlike" or not _is_choice(choices, entry[2]):
        return False
    return len(choices[entry[1]][1]) > len(choices[entry[2]][1])


def _is_choice(choices, thing):
    return is_integer(thing) and thing in choices
