"""Who knows when: behind how many draws, or by whose things, the whole dealing is told."""

from fullorring.checks import check_custom, check_turn, is_ascending
from fullorring.dealings import is_dealing
from fullorring.errors import NoDealing, TooMany
from fullorring.matching import groups, live_rows, narrowed, rows_of
from fullorring.numbers import many_dealings
from fullorring.pieces import live_of
from fullorring.ratios import over, plus, times
from fullorring.tolds import loose_people, tolds_of
from fullorring.walks import CUSTOMS

MOST_DEALINGS = 5000
MOST_PEOPLE = 8


def told_after(table, turn, dealing):
    """The least number of draws behind which a dealing is told."""
    check_turn(table, turn)
    if not is_dealing(table, dealing):
        raise NoDealing()
    told = 0
    live = live_of(table)
    for number, person in enumerate(turn, start=1):
        if len(live[person]) > 1:
            told = number
            live = live_rows(narrowed(live, person, dealing[person]))
    return told


def latest(table, turn):
    """The greatest number of draws behind which a dealing is told."""
    check_turn(table, turn)
    live_of(table)
    return max(list(tolds_of(table, turn, "strict")))


def earliest(table, turn):
    """The least number of draws behind which a dealing is told."""
    check_turn(table, turn)
    live_of(table)
    return min(list(tolds_of(table, turn, "strict")))


def mean_told(table, turn, custom):
    """The mean of the numbers of draws behind which the dealings are told, by the chances of a custom."""
    check_turn(table, turn)
    check_custom(CUSTOMS, custom)
    live_of(table)
    _check_few_dealings(table)
    total = (0, 1)
    weighed = (0, 1)
    for number, share in tolds_of(table, turn, custom).items():
        total = plus(total, share)
        weighed = plus(weighed, times((number, 1), share))
    return over(weighed, total)


def quickest(table):
    """The pair of the least latest of all turns, and the least turn that has it."""
    live = live_of(table)
    if table.size > MOST_PEOPLE:
        raise TooMany(MOST_PEOPLE)
    # What the first people of a turn tell does not hang on the order in which they come up.
    first = _least_telling(live)
    return len(first), first + tuple([person for person in range(table.size) if person not in first])


def telling(table):
    """The pair of the least number of people who always tell the whole dealing, and the least such people."""
    live = live_of(table)
    _check_few_dealings(table)
    people = _least_telling(live)
    return len(people), people


def is_telling(table, people):
    """Whether it is an ascending tuple of people who always tell the whole dealing."""
    live = live_of(table)
    _check_few_dealings(table)
    if not is_ascending(table.size, people):
        return False
    return all([loose_people(rows_of(live, lot), _places_in(lot, people)) is None for lot in groups(live)])


def _check_few_dealings(table):
    if many_dealings(table) > MOST_DEALINGS:
        raise TooMany(MOST_DEALINGS)


def _places_in(lot, people):
    """The places in the lot of those who are among the people."""
    return [at for at, person in enumerate(lot) if person in people]


def _least_telling(live):
    """The least ascending tuple of as few people as can be who always tell the whole dealing of live rows."""
    found = []
    for lot in groups(live):
        found.extend([lot[at] for at in _least_telling_of(rows_of(live, lot))])
    return tuple(sorted(found))


def _least_telling_of(rows):
    """The same for the rows of one piece."""
    rounds = []
    for many in range(len(rows)):
        found = _telling_of(rows, many, rounds)
        if found:
            break
    return min(found)


def _telling_of(rows, many, rounds):
    """All ascending tuples of so many people who always tell the whole dealing, if fewer never do.

    The ROUNDS are lots of people each of whom must tell of at least one; they are added as they are found.
    """
    found = []
    waiting = [((), ())]
    while waiting:
        people, barred = waiting.pop()
        missed = _missed_round(rows, people, rounds)
        if missed is None:
            found.append(people)
        elif len(people) < many:
            # One of these must tell: this one, and none of those ahead of it.
            for at, person in enumerate(missed):
                if person not in barred:
                    waiting.append((tuple(sorted([*people, person])), barred + missed[:at]))
    return found


def _missed_round(rows, people, rounds):
    """A round of which none of the people is, or None."""
    for one in rounds:
        if not any([person in people for person in one]):
            return one
    missed = loose_people(rows, people)
    if missed is not None:
        rounds.append(missed)
    return missed
