"""Which people can all get something at once.

ROWS are here a list or tuple of lists or tuples of things, one for each person, and as many
things as people; the things may have any numbers. Rows are LIVE if each tie of them is in a dealing.
"""


def matched(rows):
    """A list with a thing for as many people as can be, no thing twice, None for the others."""
    held = [None] * len(rows)
    owner = {}
    for person in range(len(rows)):
        _give(rows, held, owner, person)
    return held


def _give(rows, held, owner, person):
    """Let the person have a thing too, if some others, who go on to other things, make that possible."""
    came = {}
    waiting = [person]
    while waiting:
        one = waiting.pop()
        for thing in rows[one]:
            if thing in came:
                continue
            came[thing] = one
            if thing not in owner:
                _hand_on(held, owner, came, thing)
                return
            waiting.append(owner[thing])


def _hand_on(held, owner, came, thing):
    while thing is not None:
        person = came[thing]
        left = held[person]
        held[person] = thing
        owner[thing] = person
        thing = left


def owners(held):
    """The dict from the things that people hold to these people."""
    return {thing: person for person, thing in enumerate(held) if thing is not None}


def reaches(rows, held):
    """A list with the people to whom each comes by steps to one who holds a thing that one may get.

    The people are the bits of an integer; each comes to oneself.
    """
    owner = owners(held)
    found = []
    for person, row in enumerate(rows):
        mask = 1 << person
        for thing in row:
            if thing in owner:
                mask |= 1 << owner[thing]
        found.append(mask)
    for middle in range(len(rows)):
        for person in range(len(rows)):
            if found[person] >> middle & 1:
                found[person] |= found[middle]
    return found


def people_of(mask):
    """The ascending tuple of the people who are the bits of an integer."""
    return tuple([person for person in range(mask.bit_length()) if mask >> person & 1])


def live_rows(rows):
    """The rows without the ties that are in no dealing, or None if there is no dealing."""
    held = matched(rows)
    if None in held:
        return None
    # A tie is in a dealing just if the one who holds its thing can, handing on, be served for it.
    found = reaches(rows, held)
    owner = owners(held)
    return [
        [thing for thing in row if found[owner[thing]] >> person & 1]
        for person, row in enumerate(rows)
    ]


def narrowed(rows, person, thing):
    """The rows behind the drawing of a thing by a person."""
    return [
        [thing] if one == person else [left for left in row if left != thing]
        for one, row in enumerate(rows)
    ]


def groups(rows):
    """The people of live rows whom things hang together, ascending lists in ascending order."""
    found = []
    for person, row in enumerate(rows):
        people = [person]
        things = {thing: True for thing in row}
        apart = []
        for others, known in found:
            if any([thing in known for thing in row]):
                people.extend(others)
                things.update(known)
            else:
                apart.append((others, known))
        apart.append((people, things))
        found = apart
    return sorted([sorted(lot) for lot, _ in found])


def things_of(rows):
    """The ascending list of the things of the rows, all together."""
    return sorted(set([thing for row in rows for thing in row]))


def rows_of(rows, people):
    """The rows of these people alone."""
    return [rows[person] for person in people]
