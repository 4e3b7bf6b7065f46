"""All ways to cover people and things with parts that can be pieces of an even table.

A PART is here a triple (people, things, ties) of ascending tuples: everybody of it may get every thing of it, or
its ties are the steps of a round. A COVER is a tuple of parts in which each person and each thing is once.
"""

from itertools import combinations


def covers_of(rows, custom):
    """The list of all covers with parts as an even table has them by "ahead" or "anew"."""
    parts = _full_parts(rows)
    if custom == "ahead":
        parts = parts + _ring_parts(rows)
    by_least = _by_least(rows, parts)
    found = []
    waiting = [((), 0, 0)]
    while waiting:
        chosen, people, things = waiting.pop()
        least = _least_without(people)
        if least == len(rows):
            found.append(chosen)
            continue
        for part, own_people, own_things in by_least[least]:
            if own_people & people == 0 and own_things & things == 0:
                waiting.append((chosen + (part,), people | own_people, things | own_things))
    return found


def _by_least(rows, parts):
    """The lists of the parts for each person who is the least of them, with people and things as bits."""
    found = [[] for _ in rows]
    for part in parts:
        found[part[0][0]].append((part, _mask_of(part[0]), _mask_of(part[1])))
    return found


def _mask_of(numbers):
    """The numbers as the bits of an integer."""
    return sum([1 << number for number in numbers])


def _least_without(mask):
    """The least number that is no bit of an integer."""
    number = 0
    while mask >> number & 1:
        number += 1
    return number


def _full_parts(rows):
    """All parts of which everybody may get every thing."""
    found = []
    waiting = [((person,), list(row)) for person, row in enumerate(rows)]
    while waiting:
        people, common = waiting.pop()
        for things in combinations(common, len(people)):
            found.append((people, things, tuple([(person, thing) for person in people for thing in things])))
        for person in range(people[-1] + 1, len(rows)):
            shared = [thing for thing in common if thing in rows[person]]
            if len(shared) > len(people):
                waiting.append((people + (person,), shared))
    return found


def _ring_parts(rows):
    """All parts of which the ties are the steps of a round of three people or more."""
    found = []
    # A way goes from its least person by a thing of both to the next person, and so on.
    waiting = [((person,), ()) for person in range(len(rows))]
    while waiting:
        people, things = waiting.pop()
        for thing in [one for one in rows[people[-1]] if one not in things]:
            # Each round is met in both directions, of which one is taken.
            if len(people) > 2 and thing in rows[people[0]] and things[0] < thing:
                found.append(_ring_part(people, things + (thing,)))
            for person in range(people[0] + 1, len(rows)):
                if person not in people and thing in rows[person]:
                    waiting.append((people + (person,), things + (thing,)))
    return found


def _ring_part(people, things):
    """The part of a way: each thing is that of a person and of the next one."""
    steps = list(zip(people, things)) + list(zip(people[1:] + people[:1], things))
    return tuple(sorted(people)), tuple(sorted(things)), tuple(sorted(steps))
