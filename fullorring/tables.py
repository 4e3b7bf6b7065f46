"""Tables: who may get what."""

from fullorring.checks import check_person, check_thing, is_ascending, is_integer, is_renumbering
from fullorring.errors import BadTable, NoNumber, NoNumbers, TooMany

MOST_ROWS = 12
MOST_BESIDE = 40


class Table:
    """The row numbered p holds the things that the person p may get."""

    def __init__(self, rows):
        _check_rows(rows)
        self.rows = rows
        self.size = len(rows)

    def __eq__(self, other):
        return isinstance(other, Table) and self.rows == other.rows


def _check_rows(rows):
    if not isinstance(rows, tuple) or not 1 <= len(rows) <= MOST_ROWS:
        raise BadTable("rows", -1)
    for person, row in enumerate(rows):
        if not is_ascending(len(rows), row):
            raise BadTable("row", person)


def table_of(rows):
    """The table of right rows, however many they are."""
    # The bound of 12 is for those who call Table; what other functions return may be greater.
    table = Table(((),))
    table.rows = rows
    table.size = len(rows)
    return table


def ties(table):
    """The ascending list of the ties."""
    return [(person, thing) for person, row in enumerate(table.rows) for thing in row]


def with_tie(table, person, thing):
    """The table with this tie too."""
    check_person(table, person)
    check_thing(table, thing)
    row = table.rows[person]
    return _with_row(table, person, row if thing in row else tuple(sorted([*row, thing])))


def without_tie(table, person, thing):
    """The table without this tie."""
    check_person(table, person)
    check_thing(table, thing)
    return _with_row(table, person, tuple([one for one in table.rows[person] if one != thing]))


def _with_row(table, person, row):
    return table_of(table.rows[:person] + (row,) + table.rows[person + 1:])


def takers(table, thing):
    """The ascending tuple of the people who may get a thing."""
    return tuple([person for person, row in enumerate(table.rows) if thing in row])


def turned(table):
    """The table with people and things exchanged."""
    return table_of(tuple([takers(table, thing) for thing in range(table.size)]))


def renumbered(table, people, things):
    """The table with the new number of each person and of each thing."""
    for numbers in (people, things):
        if not is_renumbering(table.size, numbers):
            raise NoNumbers()
    moved = [()] * table.size
    for person, row in enumerate(table.rows):
        moved[people[person]] = tuple(sorted([things[thing] for thing in row]))
    return table_of(tuple(moved))


def beside(one, other):
    """The table with the people and things of the one, then those of the other."""
    if one.size + other.size > MOST_BESIDE:
        raise TooMany(MOST_BESIDE)
    moved = [tuple([one.size + thing for thing in row]) for row in other.rows]
    return table_of(one.rows + tuple(moved))


def kept(table, people, things):
    """The table of these people and things alone, numbered anew in order."""
    for numbers in (people, things):
        if not is_ascending(table.size, numbers) or len(numbers) == 0:
            raise NoNumbers()
    if len(people) != len(things):
        raise NoNumbers()
    return table_of(tuple([_kept_row(table.rows[person], things) for person in people]))


def _kept_row(row, things):
    return tuple([at for at, thing in enumerate(things) if thing in row])


def _check_size(size):
    if not is_integer(size) or not 1 <= size <= MOST_ROWS:
        raise NoNumber()


def names(size):
    """The table in which each may get all things but that with the own number."""
    _check_size(size)
    return table_of(tuple([_row_without(size, person) for person in range(size)]))


def _row_without(size, person):
    return tuple([thing for thing in range(size) if thing != person])


def full(size):
    """The table in which everybody may get all."""
    _check_size(size)
    return table_of((tuple(range(size)),) * size)


def ring(size):
    """The table in which each may get the own thing and the next one, behind the last one the first."""
    _check_size(size)
    return table_of(tuple([_row_of_ring(size, person) for person in range(size)]))


def _row_of_ring(size, person):
    return tuple(sorted(set([person, (person + 1) % size])))
