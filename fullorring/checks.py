"""What a thing that was passed is, whatever it is; the thing that is judged comes last."""

from fullorring.errors import NoCustom, NoPerson, NoThing, NoTurn


def is_integer(thing):
    """Whether it is an integer; a flag is none."""
    return isinstance(thing, int) and not isinstance(thing, bool)


def is_number(bound, thing):
    """Whether it is an integer from 0 below the bound."""
    return is_integer(thing) and 0 <= thing < bound


def is_numbers(bound, thing):
    """Whether it is a tuple of integers from 0 below the bound."""
    return isinstance(thing, tuple) and all([is_number(bound, one) for one in thing])


def is_ascending(bound, thing):
    """Whether it is an ascending tuple of integers from 0 below the bound."""
    return is_numbers(bound, thing) and all([low < high for low, high in zip(thing, thing[1:])])


def is_renumbering(bound, thing):
    """Whether it is a tuple of all integers from 0 below the bound, each once."""
    return is_numbers(bound, thing) and len(thing) == bound and len(set(thing)) == bound


def check_person(table, person):
    """Raise NoPerson for what is no number of a person."""
    if not is_number(table.size, person):
        raise NoPerson()


def check_thing(table, thing):
    """Raise NoThing for what is no number of a thing."""
    if not is_number(table.size, thing):
        raise NoThing()


def check_turn(table, turn):
    """Raise NoTurn for what is no tuple of all people, each once."""
    if not is_renumbering(table.size, turn):
        raise NoTurn()


def check_custom(customs, custom):
    """Raise NoCustom for what is none of the strings."""
    if not isinstance(custom, str) or custom not in customs:
        raise NoCustom()
