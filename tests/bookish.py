"""What the tests of books share: books of all forms, and what they tell, found out plainly."""

import random

from plain import listed

LEAVES = [("named",), ("giver",), ("fewest",), ("most",), ("row", ()), ("row", (("person", 1),)),
          ("row", (("thing", 0), ("person", 1), ("thing", 0)))]


def some_book(chance, size, depth=4):
    """A book, free, for tables of this size."""
    word = chance.choice(["row", "named", "giver", "fewest", "most", "if", "if", "else", "else"])
    if word in ("if", "else") and depth == 1:
        word = "row"
    if word == "row":
        return word, tuple(some_comer(chance, size) for _ in range(chance.randrange(5)))
    if word == "if":
        condition = some_condition(chance, size, depth - 1)
        return word, condition, some_book(chance, size, depth - 1), some_book(chance, size, depth - 1)
    if word == "else":
        return word, some_book(chance, size, depth - 1), some_book(chance, size, depth - 1)
    return (word,)


def some_comer(chance, size):
    return chance.choice(["person", "thing"]), chance.randrange(size)


def some_condition(chance, size, depth):
    word = chance.choice(["has", "drawn", "after", "can", "not"] if depth > 1 else ["has", "drawn", "after", "can"])
    if word in ("has", "can"):
        return word, chance.randrange(size), chance.randrange(size)
    if word == "drawn":
        return word, chance.randrange(size)
    if word == "after":
        return word, chance.randrange(size + 1)
    return word, some_condition(chance, size, depth - 1)


def some_books(size, many, seed=5):
    chance = random.Random(seed * 100 + size)
    return [some_book(chance, size) for _ in range(many)]


def open_pairs(rows, history):
    """All pairs that can be drawn next so that some dealing is left."""
    lots = [lot for lot in listed(rows) if all(lot[person] == thing for person, thing in history)]
    found = {(person, lot[person]) for lot in lots for person in range(len(rows))}
    return sorted(found - set(history))


def histories(rows):
    """All histories."""
    found = []
    waiting = [()] if listed(rows) else []
    while waiting:
        history = waiting.pop()
        found.append(history)
        waiting += [history + (pair,) for pair in open_pairs(rows, history)]
    return found


def left(size, history):
    people = {person for person, _ in history}
    things = {thing for _, thing in history}
    return [("person", person) for person in range(size) if person not in people] + [
        ("thing", thing) for thing in range(size) if thing not in things]


def plain_told(rows, book, history):
    """Whom the book tells, None for nobody."""
    free = left(len(rows), history)
    many = {}
    for person, _ in open_pairs(rows, history):
        many[person] = many.get(person, 0) + 1
    if book[0] == "row":
        return next((comer for comer in book[1] if comer in free), None)
    if book[0] == "named":
        comer = history and ("person", history[-1][1])
        return comer if comer in free else None
    if book[0] == "giver":
        comer = history and ("thing", history[-1][0])
        return comer if comer in free else None
    if book[0] == "fewest":
        return "person", min(many, key=lambda person: (many[person], person))
    if book[0] == "most":
        return "person", min(many, key=lambda person: (-many[person], person))
    if book[0] == "if":
        return plain_told(rows, book[2] if holds(rows, book[1], history) else book[3], history)
    first = plain_told(rows, book[1], history)
    return plain_told(rows, book[2], history) if first is None else first


def holds(rows, condition, history):
    if condition[0] == "has":
        return condition[1:] in history
    if condition[0] == "drawn":
        return condition[1] in [thing for _, thing in history]
    if condition[0] == "after":
        return len(history) >= condition[1]
    if condition[0] == "can":
        return condition[1:] in open_pairs(rows, history)
    return not holds(rows, condition[1], history)


def plain_next(rows, book, history):
    """Who comes up next."""
    return plain_told(rows, book, history) or min(left(len(rows), history))


def plain_pairs(rows, book, history):
    """The pairs among which is drawn next."""
    kind, number = plain_next(rows, book, history)
    return [one for one in open_pairs(rows, history) if one[0 if kind == "person" else 1] == number]


def plain_ways(rows, book):
    """The dict from all dealings to pairs: the history by which it comes, and 1 divided by its chance."""
    found = {}
    waiting = [((), 1)]
    while waiting:
        history, bottom = waiting.pop()
        if len(history) == len(rows):
            found[tuple(thing for _, thing in sorted(history))] = (history, bottom)
            continue
        pairs = plain_pairs(rows, book, history)
        waiting += [(history + (one,), bottom * len(pairs)) for one in pairs]
    return found


def deep_book(depth):
    """A book of this depth."""
    book = ("named",)
    for _ in range(depth - 1):
        book = ("else", ("row", ()), book)
    return book


def deep_condition(depth):
    condition = ("after", 1)
    for _ in range(depth - 1):
        condition = ("not", condition)
    return condition


def book_of(many):
    """A book of so many tuples, an odd number, or an even one from 8 on."""
    if many == 1:
        return ("named",)
    if many % 2 == 0:
        return "if", ("drawn", 0), book_of(many - 5), book_of(3)
    half = (many - 1) // 2
    half += 1 - half % 2
    return "else", book_of(half), book_of(many - 1 - half)


def many_tuples(book):
    """How many tuples of books and conditions are in it."""
    if book[0] == "row":
        return 1
    return 1 + sum(many_tuples(part) for part in book[1:] if isinstance(part, tuple))
