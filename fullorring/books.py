"""Books, which tell who comes up next by what was drawn."""

from fullorring.bookforms import is_book
from fullorring.checks import check_turn
from fullorring.dealings import is_dealing
from fullorring.errors import NoBook, NoDealing, NoHistory, TooMany
from fullorring.histories import comer_at, draw_at, draw_behind, first_draw, pairs_at
from fullorring.numbers import many_dealings
from fullorring.pieces import live_of

MOST_DEALINGS = 5000


def next_comer(table, book, history):
    """Who comes up next by a book behind a history."""
    _check_book(table, book)
    draw = draw_at(table, history)
    if draw is None or None not in draw[1]:
        raise NoHistory()
    return comer_at(book, draw)


def book_chance(table, book, dealing):
    """The chance of a dealing by a book."""
    return 1, _way_to(table, book, dealing)[1]


def book_history(table, book, dealing):
    """The history by which a dealing comes."""
    return _way_to(table, book, dealing)[0]


def _way_to(table, book, dealing):
    """The history by which a dealing comes, and the numbers of pairs among which there was drawn, multiplied."""
    _check_book(table, book)
    if not is_dealing(table, dealing):
        raise NoDealing()
    draw = first_draw(table)
    bottom = 1
    while None in draw[1]:
        pairs = pairs_at(book, draw)
        bottom *= len(pairs)
        own = [(person, thing) for person, thing in pairs if dealing[person] == thing]
        draw = draw_behind(table, draw, own[0])
    return draw[0], bottom


def book_even(table, book):
    """Whether all dealings are alike likely by a book."""
    return book_uneven(table, book) is None


def book_uneven(table, book):
    """A pair of dealings, the first one likelier by the book, or None."""
    _check_book(table, book)
    live_of(table)
    if many_dealings(table) > MOST_DEALINGS:
        raise TooMany(MOST_DEALINGS)
    found = _dealings_by_bottom(table, book)
    least = min(list(found))
    greatest = max(list(found))
    return None if least == greatest else (found[least], found[greatest])


def _dealings_by_bottom(table, book):
    """The dict to a dealing from the numbers among which there is drawn till it comes, multiplied."""
    found = {}
    waiting = [(first_draw(table), 1)]
    while waiting:
        draw, bottom = waiting.pop()
        if None not in draw[1]:
            found[bottom] = draw[1]
            continue
        pairs = pairs_at(book, draw)
        waiting.extend([(draw_behind(table, draw, pair), bottom * len(pairs)) for pair in pairs])
    return found


def _check_book(table, book):
    if not is_book(table, book):
        raise NoBook()


def turn_book(table, turn):
    """The book by which all come up as in a turn."""
    check_turn(table, turn)
    return "row", tuple([("person", person) for person in turn])
