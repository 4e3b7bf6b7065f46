"""What a thing that was passed is, whatever it is; the thing that is judged comes last."""

from fullorring.errors import NoCustom, NoPerson, NoThing, NoTurn


def is_integer(thing):
    """Whether it is an integer; a flag is none."""
    return isinstance(thing, int) and not isinstance(thing, bool)


def is_number(bound, thing):
    """Whether it is an integer from 0 below the bound."""
    return is_integer(thing) and 0 <= thing < bound


def is_numbers(bound, thing):
    """Whether it is a tuple of integers from 0 below the bound."""
    return isinstance(thing, tuple) and all([is_number(bound, one) for one in thing])


def is_ascending(bound, thing):
    """Whether it is an ascending tuple of integers from 0 below the bound."""
    return is_numbers(bound, thing) and all([low < high for low, high in zip(thing, thing[1:])])


def is_renumbering(bound, thing):
    """Whether it is a tuple of all integers from 0 below the bound, each once."""
    return is_numbers(bound, thing) and len(thing) == bound and len(set(thing)) == bound


def is_pair(table, thing):
    """Whether it is a tuple of the numbers of a person and of a thing."""
    return isinstance(thing, tuple) and len(thing) == 2 and all([is_number(table.size, one) for one in thing])


def is_tie(table, thing):
    """Whether it is a tie."""
    return is_pair(table, thing) and thing[1] in table.rows[thing[0]]


def is_comer(table, thing):
    """Whether it is a person or a thing that may come up."""
    if not isinstance(thing, tuple) or len(thing) != 2 or not isinstance(thing[0], str):
        return False
    return thing[0] in ("person", "thing") and is_number(table.size, thing[1])


def check_person(table, person):
    """Raise NoPerson for what is no number of a person."""
    if not is_number(table.size, person):
        raise NoPerson()


def check_thing(table, thing):
    """Raise NoThing for what is no number of a thing."""
    if not is_number(table.size, thing):
        raise NoThing()


def check_turn(table, turn):
    """Raise NoTurn for what is no tuple of all people, each once."""
    if not is_renumbering(table.size, turn):
        raise NoTurn()


def check_custom(customs, custom):
    """Raise NoCustom for what is none of the strings."""
    if not isinstance(custom, str) or custom not in customs:
        raise NoCustom()
