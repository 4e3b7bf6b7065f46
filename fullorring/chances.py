"""With which chance each dealing comes, in a turn and by a custom."""

from math import factorial

from fullorring.checks import check_custom, check_person, check_thing, check_turn
from fullorring.dealings import is_dealing
from fullorring.errors import NoDealing, TooMany
from fullorring.numbers import many_dealings, many_with
from fullorring.pieces import live_of
from fullorring.ratios import lowest, over
from fullorring.spreading import bottoms_of
from fullorring.walks import CUSTOMS, bottom_of, rows_in_turn, total_of

MOST_SPREAD = 5000


def chance(table, turn, custom, dealing):
    """The chance with which a dealing comes in the end."""
    check_turn(table, turn)
    check_custom(CUSTOMS, custom)
    if not is_dealing(table, dealing):
        raise NoDealing()
    return _chance_of(bottom_of(table, turn, custom, dealing), _total(table, turn, custom))


def through(table, turn, custom):
    """The chance with which all draw without ever beginning anew."""
    _check_draw(table, turn, custom)
    return _total(table, turn, custom)


def _check_draw(table, turn, custom):
    check_turn(table, turn)
    check_custom(CUSTOMS, custom)
    live_of(table)


def _total(table, turn, custom):
    """The chance with which all draw without beginning anew."""
    if custom == "strict":
        return lowest(many_dealings(table), factorial(table.size))
    return total_of(rows_in_turn(table, turn), custom, None, {})


def _chance_of(bottom, total):
    """The chance of a dealing, had all to begin anew so often."""
    return over((1, bottom), total)


def likeliest(table, turn, custom):
    """The pair of the greatest chance, and the least dealing that has it."""
    _check_draw(table, turn, custom)
    bottom, _, lot = bottoms_of(table, turn, custom, True)[0]
    return _chance_of(bottom, _total(table, turn, custom)), lot


def unlikeliest(table, turn, custom):
    """The pair of the least chance, and the least dealing that has it."""
    _check_draw(table, turn, custom)
    bottom, _, lot = bottoms_of(table, turn, custom, True)[-1]
    return _chance_of(bottom, _total(table, turn, custom)), lot


def leaning(table, turn, custom):
    """The greatest chance divided by the least one."""
    _check_draw(table, turn, custom)
    found = bottoms_of(table, turn, custom, True)
    return lowest(found[-1][0], found[0][0])


def spread(table, turn, custom):
    """The ascending list of the pairs of a chance, and how many dealings have it."""
    _check_draw(table, turn, custom)
    if many_dealings(table) > MOST_SPREAD:
        raise TooMany(MOST_SPREAD)
    total = _total(table, turn, custom)
    found = bottoms_of(table, turn, custom, False)
    # The greater a bottom, the less the chance.
    return [(_chance_of(bottom, total), many) for bottom, many, _ in found[::-1]]


def thing_chance(table, turn, custom, person, thing):
    """The chance with which a person gets a thing."""
    check_turn(table, turn)
    check_custom(CUSTOMS, custom)
    check_person(table, person)
    check_thing(table, thing)
    live_of(table)
    if custom == "strict":
        return lowest(many_with(table, [(person, thing)]), many_dealings(table))
    mark = (turn.index(person), thing)
    return over(total_of(rows_in_turn(table, turn), custom, mark, {}), _total(table, turn, custom))
