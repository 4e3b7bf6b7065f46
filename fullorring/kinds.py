"""Kinds of people and things, however many there are of each, and families who draw one another's names."""

from itertools import combinations
from math import comb, factorial

from fullorring.checks import check_custom, is_ascending, is_integer
from fullorring.errors import BadKinds, Empty, NoNumber, NoSizes, Stuck, TooMany
from fullorring.even import ALWAYS_CUSTOMS
from fullorring.tables import MOST_ROWS, table_of

MOST_KINDS = 8
MOST_OF_A_KIND = 10 ** 30
MOST_MODULUS = 10 ** 30
MOST_COUNTED = 60
MOST_STATES = 5000
MOST_IN_FAMILIES = 400


class Kinds:
    """How many people and things there are of each kind, and the kinds of things that each kind of people may get."""

    def __init__(self, people, things, allowed):
        _check_kinds(people, things, allowed)
        self.people = people
        self.things = things
        self.allowed = allowed

    def __eq__(self, other):
        if not isinstance(other, Kinds):
            return False
        return self.people == other.people and self.things == other.things and self.allowed == other.allowed


def _check_kinds(people, things, allowed):
    if not _are_sizes(0, people):
        raise BadKinds("people")
    if not _are_sizes(0, things):
        raise BadKinds("things")
    if not isinstance(allowed, tuple) or len(allowed) != len(people):
        raise BadKinds("allowed")
    if not all([is_ascending(len(things), row) for row in allowed]):
        raise BadKinds("allowed")
    if sum(people) != sum(things):
        raise BadKinds("sums")


def _are_sizes(least, thing):
    """Whether it is a tuple of 1 to 8 integers, from the least on."""
    if not isinstance(thing, tuple) or not 1 <= len(thing) <= MOST_KINDS:
        return False
    return all([is_integer(one) and least <= one <= MOST_OF_A_KIND for one in thing])


def kinds_table(kinds):
    """The table, people and things numbered kind by kind."""
    many = sum(kinds.people)
    if many > MOST_ROWS:
        raise TooMany(MOST_ROWS)
    if many == 0:
        raise Empty()
    kind_of_thing = [kind for kind, size in enumerate(kinds.things) for _ in range(size)]
    rows = []
    for kind, size in enumerate(kinds.people):
        row = tuple([thing for thing, own in enumerate(kind_of_thing) if own in kinds.allowed[kind]])
        rows.extend([row] * size)
    return table_of(tuple(rows))


def kinds_can(kinds):
    """Whether there is a dealing."""
    return kinds_short(kinds) is None


def kinds_short(kinds):
    """The least of the fewest kinds of people who are more than the things that they may get, or None."""
    for lot in _lots_of_kinds(kinds):
        if _many_people(kinds, lot) > _many_things(kinds, _reach(kinds, lot)):
            return lot
    return None


def _lots_of_kinds(kinds):
    """All ascending tuples of kinds of people, fewer kinds first."""
    numbers = list(range(len(kinds.people)))
    return [lot for many in range(len(numbers) + 1) for lot in combinations(numbers, many)]


def _reach(kinds, lot):
    """The kinds of things that these kinds of people may get."""
    return sorted(set([thing for kind in lot for thing in kinds.allowed[kind]]))


def _many_people(kinds, lot):
    return sum([kinds.people[kind] for kind in lot])


def _many_things(kinds, lot):
    return sum([kinds.things[kind] for kind in lot])


def kinds_even(kinds, custom):
    """Whether the table is even in every turn."""
    check_custom(ALWAYS_CUSTOMS, custom)
    found = kinds_pieces(kinds)
    if custom == "anew":
        return all([_are_all_or_nothing(kinds, things) for _, things in found])
    links = _links(kinds)
    return all([_is_full(kinds, piece) or _is_ring(kinds, links, piece) for piece in found])


def _are_all_or_nothing(kinds, things):
    """Whether everybody may get all of a piece's things or none; then also the people of the piece, all."""
    for kind, row in enumerate(kinds.allowed):
        if kinds.people[kind] > 0 and len([thing for thing in things if thing in row]) not in (0, len(things)):
            return False
    return True


def _is_full(kinds, piece):
    people, things = piece
    return all([thing in kinds.allowed[kind] for kind in people for thing in things])


def _is_ring(kinds, links, piece):
    """Whether each of its people may get just two things by ties that are not idle, and each thing two people."""
    people, things = piece
    for kind in people:
        if _many_things(kinds, [thing for one, thing in links if one == kind]) != 2:
            return False
    for thing in things:
        if _many_people(kinds, [kind for kind, one in links if one == thing]) != 2:
            return False
    return True


def _links(kinds):
    """The pairs of kinds of people and things between whom there are ties that are not idle; there is a dealing."""
    found = []
    for kind, row in enumerate(kinds.allowed):
        found.extend([(kind, thing) for thing in row if kinds.people[kind] > 0 and kinds.things[thing] > 0])
    for lot in _lots_of_kinds(kinds):
        reach = _reach(kinds, lot)
        # Where people need all things that they may get, nobody else gets of them.
        if _many_people(kinds, lot) == _many_things(kinds, reach):
            found = [(kind, thing) for kind, thing in found if kind in lot or thing not in reach]
    return found


def kinds_pieces(kinds):
    """The ascending list of the pairs of the kinds of people and of things of each piece."""
    if not kinds_can(kinds):
        raise Stuck()
    found = []
    for kind, thing in _links(kinds):
        people = [kind]
        things = [thing]
        apart = []
        for piece in found:
            if kind in piece[0] or thing in piece[1]:
                people.extend(piece[0])
                things.extend(piece[1])
            else:
                apart.append(piece)
        found = apart + [(tuple(sorted(set(people))), tuple(sorted(set(things))))]
    return sorted(found)


def kinds_many(kinds, modulus):
    """The number of dealings modulo a number."""
    _check_modulus(modulus)
    if sum(kinds.people) > MOST_COUNTED:
        raise TooMany(MOST_COUNTED)
    states = 1
    for size in kinds.things:
        states *= size + 1
    if states > MOST_STATES:
        raise TooMany(MOST_STATES)
    ways = {kinds.things: 1}
    for kind, size in enumerate(kinds.people):
        for _ in range(size):
            ways = _ways_behind(ways, kinds.allowed[kind], modulus)
    return sum(list(ways.values())) % modulus


def _check_modulus(modulus):
    if not is_integer(modulus) or not 1 <= modulus <= MOST_MODULUS:
        raise NoNumber()


def _ways_behind(ways, row, modulus):
    """The dict from how many things of each kind are left to the ways to that, behind one person more."""
    behind = {}
    for left, many in ways.items():
        for thing in row:
            if left[thing] > 0:
                after = left[:thing] + (left[thing] - 1,) + left[thing + 1:]
                behind[after] = (behind.get(after, 0) + many * left[thing]) % modulus
    return behind


def families(sizes):
    """The kinds of families of these sizes: nobody draws a name of the own family."""
    _check_sizes(sizes)
    numbers = list(range(len(sizes)))
    return Kinds(sizes, sizes, tuple([tuple([other for other in numbers if other != own]) for own in numbers]))


def _check_sizes(sizes):
    if not _are_sizes(1, sizes):
        raise NoSizes()


def families_even(sizes, custom):
    """Whether families of these sizes draw evenly in every turn."""
    return kinds_even(families(sizes), custom)


def families_many(sizes, modulus):
    """The number of dealings of families of these sizes modulo a number."""
    _check_sizes(sizes)
    _check_modulus(modulus)
    many = sum(sizes)
    if many > MOST_IN_FAMILIES:
        raise TooMany(MOST_IN_FAMILIES)
    # All ways to deal, less those with some own names: in which so many people hold some, the rest dealt in any way.
    found = [ways * factorial(many - fixed) for fixed, ways in enumerate(_ways_to_fix(sizes))]
    return (sum(found[::2]) - sum(found[1::2])) % modulus


def _ways_to_fix(sizes):
    """The list with the number of ways for so many people to hold names of their own families."""
    ways = [1]
    for size in sizes:
        longer = [0] * (len(ways) + size)
        for fixed, many in enumerate(ways):
            for more in range(size + 1):
                longer[fixed + more] += many * comb(size, more) ** 2 * factorial(more)
        ways = longer
    return ways
