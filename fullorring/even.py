"""Whether all dealings are alike likely, in one turn and in every turn."""

from itertools import permutations

from fullorring.checks import check_custom, check_turn, is_number, is_renumbering
from fullorring.dealings import dealing, is_dealing
from fullorring.pieces import live_of, piece_kinds, pieces
from fullorring.spreading import bottoms_of, spread_of
from fullorring.standings import is_sound, left_of, many_after, open_things, table_behind, with_drawn
from fullorring.walks import CUSTOMS, bottom_of

ALWAYS_CUSTOMS = ("ahead", "anew")


def is_even(table, turn, custom):
    """Whether all dealings are alike likely."""
    return uneven(table, turn, custom) is None


def uneven(table, turn, custom):
    """A pair of dealings, the first one likelier, or None."""
    _check_draw(table, turn, custom)
    found = bottoms_of(table, turn, custom, True)
    return None if len(found) == 1 else (found[0][2], found[-1][2])


def is_uneven(table, turn, custom, thing):
    """Whether it is a pair of dealings, the first one likelier."""
    _check_draw(table, turn, custom)
    return _is_likelier_pair(table, turn, custom, thing)


def _check_draw(table, turn, custom):
    check_turn(table, turn)
    check_custom(CUSTOMS, custom)
    live_of(table)


def _is_likelier_pair(table, turn, custom, thing):
    if not isinstance(thing, tuple) or len(thing) != 2 or not all([is_dealing(table, one) for one in thing]):
        return False
    # The lesser the bottom, the greater the chance.
    return bottom_of(table, turn, custom, thing[0]) < bottom_of(table, turn, custom, thing[1])


def fork(table, turn):
    """A fork, or None."""
    check_turn(table, turn)
    live_of(table)
    standing = (None,) * table.size
    known = {}
    for at, person in enumerate(turn):
        pair = _unlike_things(table, standing, person)
        if pair is not None:
            return standing, person, pair[0], pair[1]
        # By the first fact there is a fork behind each draw behind which the turn is not even, and else none.
        for thing in open_things(table, standing, person):
            after = with_drawn(standing, person, thing)
            if _is_uneven_behind(table, turn[at + 1:], after, known):
                break
        else:
            return None
        standing = after
    return None


def _unlike_things(table, standing, person):
    """The open things with the most and with the fewest dealings behind them, None if these are as many."""
    many = {
        thing: many_after(table, with_drawn(standing, person, thing))
        for thing in open_things(table, standing, person)
    }
    one = max(list(many), key=lambda thing: many[thing])
    other = min(list(many), key=lambda thing: many[thing])
    return None if many[one] == many[other] else (one, other)


def _is_uneven_behind(table, people, standing, known):
    """Whether looking ahead not all dealings behind a standing are alike likely, these people being left."""
    rows = [left_of(table.rows[person], standing) for person in people]
    return len(spread_of(rows, people, "ahead", True, known)) > 1


def is_fork(table, turn, thing):
    """Whether it is a fork."""
    check_turn(table, turn)
    live_of(table)
    if not isinstance(thing, tuple) or len(thing) != 4:
        return False
    standing, person, one, other = thing
    if not is_sound(table, standing) or not is_number(table.size, person):
        return False
    at = turn.index(person)
    if [who for who in turn if standing[who] is not None] != list(turn[:at]):
        return False
    things = open_things(table, standing, person)
    if not all([is_number(table.size, choice) and choice in things for choice in (one, other)]):
        return False
    many, many_too = [many_after(table, with_drawn(standing, person, choice)) for choice in (one, other)]
    return many > many_too


def always_even(table, custom):
    """Whether all dealings are alike likely in every turn."""
    check_custom(ALWAYS_CUSTOMS, custom)
    if custom == "ahead":
        return "other" not in piece_kinds(table)
    # Everybody gets something of the own piece: where it is all, the piece is full.
    return all([_is_all_or_nothing(table, things) for _, things in pieces(table)])


def _is_all_or_nothing(table, things):
    return all([len([thing for thing in row if thing in things]) in (0, len(things)) for row in table.rows])


def tilted(table, custom):
    """A triple of a turn and two dealings, the first one likelier, or None."""
    if always_even(table, custom):
        return None
    standing = (None,) * table.size
    people = ()
    step = _step_to_uneven(table, standing, custom)
    while step is not None:
        person, thing = step
        standing = with_drawn(standing, person, thing)
        people = people + (person,)
        step = _step_to_uneven(table, standing, custom)
    return _tilted_at(table, custom, standing, people)


def _step_to_uneven(table, standing, custom):
    """A person and an open thing behind which what is left is not always even, or None."""
    for person, row in enumerate(live_of(table_behind(table, standing))):
        if standing[person] is not None:
            continue
        for thing in row:
            if not always_even(table_behind(table, with_drawn(standing, person, thing)), custom):
                return person, thing
    return None


def _tilted_at(table, custom, standing, people):
    """A tilted turn begun with these people, where whatever is drawn next what is left is always even.

    So all dealings in which the next one draws the same thing are alike likely, and one of each is enough.
    """
    left = [person for person, own in enumerate(standing) if own is None]
    for order in _plain_orders(left):
        found = _tilted_in(table, custom, standing, people + order)
        if found is not None:
            return found
    for order in permutations(left):
        found = _tilted_in(table, custom, standing, people + order)
        if found is not None:
            return found
    return None


def _tilted_in(table, custom, standing, turn):
    """The turn with two dealings behind the standing, or None if those are alike likely that are compared."""
    person = [who for who in turn if standing[who] is None][0]
    found = {}
    for thing in open_things(table, standing, person):
        lot = dealing(table_behind(table, with_drawn(standing, person, thing)))
        found[bottom_of(table, turn, custom, lot)] = lot
    least = min(list(found))
    greatest = max(list(found))
    return None if least == greatest else (turn, found[least], found[greatest])


def _plain_orders(people):
    """Some orders of the people, each of them coming first, among which there mostly is what is looked for."""
    found = []
    for first in people:
        others = _without(people, first)
        found.extend([(first,) + others, (first,) + others[::-1]])
        for one in others:
            rest = _without(others, one)
            found.extend([(first, one) + rest, (first,) + rest + (one,)])
    return found


def _without(people, person):
    return tuple([one for one in people if one != person])


def is_tilted(table, custom, thing):
    """Whether it is a triple of a turn and two dealings, the first one likelier."""
    check_custom(ALWAYS_CUSTOMS, custom)
    live_of(table)
    if not isinstance(thing, tuple) or len(thing) != 3 or not is_renumbering(table.size, thing[0]):
        return False
    return _is_likelier_pair(table, thing[0], custom, thing[1:])
