"""Books as texts, and out of them."""

from fullorring.bookforms import MOST_TUPLES, is_book
from fullorring.errors import BadText
from fullorring.reading import is_number_word

# How many parts stand behind each word; behind "row" so many more as the first one of them tells.
MANY_PARTS = {
    "row": 1, "named": 0, "giver": 0, "fewest": 0, "most": 0, "if": 3, "else": 2,
    "has": 2, "drawn": 1, "after": 1, "can": 2, "not": 1,
}


def book_text(book):
    """The book in one line."""
    if book[0] == "row":
        return " ".join(["row", str(len(book[1]))] + [_comer_text(kind, number) for kind, number in book[1]])
    return " ".join([book[0]] + [book_text(part) if isinstance(part, tuple) else str(part) for part in book[1:]])


def _comer_text(kind, number):
    return ("p" if kind == "person" else "x") + str(number)


def read_book(table, text):
    """The book of a text, for the table."""
    if not isinstance(text, str):
        raise BadText(0)
    book = _parsed(text.split(" "))
    # Whatever the text has more than is needed is not in the text of the book.
    if not is_book(table, book) or book_text(book) != text:
        raise BadText(1)
    return book


def _parsed(words):
    """What the words are if they are a book, else anything.

    Each word stands ahead of its parts: so the words are read from behind, and the parts wait in a list.
    """
    if len([word for word in words if word in MANY_PARTS]) > MOST_TUPLES:
        return None
    held = []
    for word in reversed(words):
        many = _many_parts(word, held)
        if len(held) < many:
            return None
        parts = [held.pop() for _ in range(many)]
        held.append(_made(word, parts))
    return held[0] if len(held) == 1 else None


def _many_parts(word, held):
    if word == "row" and held and isinstance(held[-1], int):
        return 1 + held[-1]
    return MANY_PARTS.get(word, 0)


def _made(word, parts):
    if word == "row":
        return word, tuple(parts[1:])
    if word in MANY_PARTS:
        return (word, *parts)
    if is_number_word(word):
        return int(word)
    if word[:1] in ("p", "x") and is_number_word(word[1:]):
        return ("person" if word[0] == "p" else "thing"), int(word[1:])
    return None
