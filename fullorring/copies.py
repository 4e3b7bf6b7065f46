"""Things that are copies of one another, so that only their looks matter."""

from fullorring.checks import check_custom, check_turn, is_number
from fullorring.dealings import is_dealing
from fullorring.errors import NoDealing, NoLooks, NoOutcome, TooMany
from fullorring.numbers import many_dealings
from fullorring.outcomes import is_possible, shares_of
from fullorring.pieces import live_of
from fullorring.ratios import over, plus
from fullorring.tables import takers
from fullorring.walks import CUSTOMS

MANY_LOOKS = 12
MOST_DEALINGS = 5000


def outcome(table, looks, dealing):
    """The looks that the people get by a dealing."""
    _check_looks(table, looks)
    if not is_dealing(table, dealing):
        raise NoDealing()
    return tuple([looks[thing] for thing in dealing])


def many_outcomes(table, looks):
    """How many outcomes there are."""
    return len(weights(table, looks))


def outcome_chance(table, looks, turn, custom, outcome):
    """The chance of an outcome."""
    _check_looks(table, looks)
    check_turn(table, turn)
    check_custom(CUSTOMS, custom)
    if not is_possible(table, looks, outcome):
        raise NoOutcome()
    _check_few_dealings(table)
    shares = shares_of(table, looks, turn, custom)
    total = (0, 1)
    for share in shares.values():
        total = plus(total, share)
    return over(shares[outcome], total)


def weights(table, looks):
    """The dict from all outcomes to how many dealings are each."""
    _check_looks(table, looks)
    live_of(table)
    _check_few_dealings(table)
    # By "strict" each dealing counts as one, in whatever turn.
    shares = shares_of(table, looks, tuple(range(table.size)), "strict")
    return {lot: share[0] for lot, share in shares.items()}


def outcomes_even(table, looks, turn, custom):
    """Whether all outcomes are alike likely."""
    _check_looks(table, looks)
    check_turn(table, turn)
    check_custom(CUSTOMS, custom)
    live_of(table)
    _check_few_dealings(table)
    return len(set(list(shares_of(table, looks, turn, custom).values()))) == 1


def copies_alike(table, looks):
    """Whether things of one look may be got by the same people."""
    _check_looks(table, looks)
    people = {}
    for thing, look in enumerate(looks):
        if takers(table, thing) != people.setdefault(look, takers(table, thing)):
            return False
    return True


def _check_looks(table, looks):
    if not isinstance(looks, tuple) or len(looks) != table.size:
        raise NoLooks()
    if not all([is_number(MANY_LOOKS, look) for look in looks]):
        raise NoLooks()


def _check_few_dealings(table):
    if many_dealings(table) > MOST_DEALINGS:
        raise TooMany(MOST_DEALINGS)
