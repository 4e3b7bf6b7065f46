"""Fixed tickets, by which some of what is open is likelier than the rest.

A LINK is here a quadruple (standing, one, other, ratio): the standing can be come to in the turn, one and other
are open then for the person who comes up, and the ratio is that of the tickets of the other and of the one
with which all dealings behind them are alike likely: that of the numbers of dealings behind them.
"""

from math import lcm

from fullorring.checks import check_turn, is_integer, is_number
from fullorring.dealings import is_dealing
from fullorring.errors import NoDealing, NoTickets, TooMany
from fullorring.lots import many_by_lot, standing_by_lot, steps_of
from fullorring.matching import live_rows
from fullorring.pieces import live_of
from fullorring.ratios import lowest, times
from fullorring.standings import is_standing, open_things, with_drawn

MOST_PEOPLE = 9


def ticket_chance(table, turn, tickets, dealing):
    """The chance of a dealing by tickets."""
    check_turn(table, turn)
    if not _is_tickets(table, tickets):
        raise NoTickets()
    if not is_dealing(table, dealing):
        raise NoDealing()
    standing = (None,) * table.size
    chance = (1, 1)
    for person in turn:
        together = sum([tickets[(person, thing)] for thing in open_things(table, standing, person)])
        chance = times(chance, lowest(tickets[(person, dealing[person])], together))
        standing = with_drawn(standing, person, dealing[person])
    return chance


def _is_tickets(table, thing):
    live = live_rows(table.rows)
    # Where there is no dealing, all ties are idle.
    own = [] if live is None else [(person, one) for person, row in enumerate(live) for one in row]
    if not isinstance(thing, dict) or len(thing) != len(own) or not all([tie in thing for tie in own]):
        return False
    return all([is_integer(thing[tie]) and thing[tie] >= 1 for tie in own])


def even_tickets(table, turn):
    """The least tickets with which all dealings are alike likely, or None."""
    _check_turn_of_few(table, turn)
    links = _links_by_person(table, turn)
    found = {}
    for person, things in enumerate(live_of(table)):
        tree = _tree_of(things, links[person])
        if _broken_link(tree, links[person]) is not None:
            return None
        for thing, number in _least_numbers(tree).items():
            found[(person, thing)] = number
    return found


def is_even_tickets(table, turn, thing):
    """Whether it is tickets with which all dealings are alike likely."""
    _check_turn_of_few(table, turn)
    if not _is_tickets(table, thing):
        return False
    for person, links in _links_by_person(table, turn).items():
        if not all([lowest(thing[(person, other)], thing[(person, one)]) == ratio for _, one, other, ratio in links]):
            return False
    return True


def twist(table, turn):
    """A twist, or None."""
    _check_turn_of_few(table, turn)
    links = _links_by_person(table, turn)
    for person, things in enumerate(live_of(table)):
        tree = _tree_of(things, links[person])
        link = _broken_link(tree, links[person])
        if link is not None:
            return person, _round_by(tree, link)
    return None


def _check_turn_of_few(table, turn):
    check_turn(table, turn)
    live_of(table)
    if table.size > MOST_PEOPLE:
        raise TooMany(MOST_PEOPLE)


def _links_by_person(table, turn):
    """The dict from the people to links, at each standing from the least open thing to each other one."""
    steps = steps_of(table, turn)
    many = many_by_lot(steps)
    standings = standing_by_lot(steps, turn)
    links = {person: [] for person in turn}
    for lot, choices in steps.items():
        for thing in list(choices)[1:]:
            one = list(choices)[0]
            ratio = lowest(many[choices[thing]], many[choices[one]])
            links[turn[len(lot)]].append((standings[lot], one, thing, ratio))
    return links


def _tree_of(things, links):
    """The dict from the things to triples: a root, the ratio to it, and the link by which it was come to, or None."""
    both = links + [(standing, other, one, (ratio[1], ratio[0])) for standing, one, other, ratio in links]
    tree = {}
    for root in things:
        waiting = [] if root in tree else [(root, root, (1, 1), None)]
        while waiting:
            thing, start, share, came_by = waiting.pop()
            if thing in tree:
                continue
            tree[thing] = (start, share, came_by)
            for link in both:
                if link[1] == thing and link[2] not in tree:
                    waiting.append((link[2], start, times(share, link[3]), link))
    return tree


def _broken_link(tree, links):
    """A link that does not fit the ratios of the tree, or None."""
    for link in links:
        if times(tree[link[1]][1], link[3]) != tree[link[2]][1]:
            return link
    return None


def _least_numbers(tree):
    """The least integers from 1 on that have the ratios of the tree, for each root apart."""
    numbers = {}
    for root in tree:
        if tree[root][0] == root:
            shares = {thing: share for thing, (start, share, _) in tree.items() if start == root}
            # The share of the root is 1, so that what the bottoms ask for is also all that is needed.
            least = 1
            for _, bottom in shares.values():
                least = lcm(least, bottom)
            numbers.update({thing: top * least // bottom for thing, (top, bottom) in shares.items()})
    return numbers


def _round_by(tree, link):
    """The steps of a broken link, and back from its other thing to its first one through the tree."""
    there = _way_to_root(tree, link[2])
    back = _way_to_root(tree, link[1])
    while there and back and there[-1] == back[-1]:
        there.pop()
        back.pop()
    turned = [(standing, other, one) for standing, one, other in reversed(back)]
    return tuple([link[:3]] + there + turned)


def _way_to_root(tree, thing):
    steps = []
    while tree[thing][2] is not None:
        standing, one, other, _ = tree[thing][2]
        steps.append((standing, other, one))
        thing = one
    return steps


def is_twist(table, turn, thing):
    """Whether it is a twist."""
    _check_turn_of_few(table, turn)
    if not isinstance(thing, tuple) or len(thing) != 2 or not is_number(table.size, thing[0]):
        return False
    person, twisted = thing
    if not isinstance(twisted, tuple) or len(twisted) == 0:
        return False
    steps = steps_of(table, turn)
    if not all([_is_step(table, turn[:turn.index(person) + 1], steps, step) for step in twisted]):
        return False
    ones = [one for _, one, _ in twisted]
    if [other for _, _, other in twisted] != ones[1:] + ones[:1]:
        return False
    return _are_unlike(steps, twisted)


def _is_step(table, people, steps, step):
    """Whether it is a triple of a standing at which the last one of these people comes up, and two open things."""
    if not isinstance(step, tuple) or len(step) != 3 or not is_standing(table, step[0]):
        return False
    drawn = [person for person, own in enumerate(step[0]) if own is not None]
    lot = _lot_of(step[0])
    if drawn != sorted(people[:-1]) or lot not in steps:
        return False
    if not all([is_number(table.size, thing) and thing in steps[lot] for thing in step[1:]]):
        return False
    return step[1] != step[2]


def _lot_of(standing):
    return tuple(sorted([thing for thing in standing if thing is not None]))


def _are_unlike(steps, twisted):
    """Whether the numbers of dealings behind the ones and behind the others, multiplied, are unlike."""
    many = many_by_lot(steps)
    product = 1
    product_too = 1
    for standing, one, other in twisted:
        choices = steps[_lot_of(standing)]
        product *= many[choices[one]]
        product_too *= many[choices[other]]
    return product != product_too
