"""What a book is."""

from fullorring.checks import is_comer, is_integer, is_number, is_renumbering

MOST_COMERS = 24
MOST_TUPLES = 100
MOST_DEEP = 15
MOST_AFTER = 12


def is_book(table, thing):
    """Whether it is a book for the table."""
    many = 0
    waiting = [("book", thing, 1)]
    while waiting:
        sort, part, depth = waiting.pop()
        many += 1
        # The bounds also end the walk early through what holds itself in many places.
        if many > MOST_TUPLES or depth > MOST_DEEP:
            return False
        inner = _inside(table, sort, part)
        if inner is None:
            return False
        waiting.extend([(sort_of_one, one, depth + 1) for sort_of_one, one in inner])
    return True


def _inside(table, sort, part):
    """The books and conditions straight in it, each behind its sort; None if it has no such form."""
    if not isinstance(part, tuple) or len(part) == 0 or not isinstance(part[0], str):
        return None
    if sort == "book":
        return _inside_book(table, part[0], part[1:])
    return _inside_condition(table, part[0], part[1:])


def _inside_book(table, word, parts):
    if word == "row" and len(parts) == 1:
        return [] if _is_row(table, parts[0]) else None
    if word in ("named", "giver", "fewest", "most") and len(parts) == 0:
        return []
    if word == "if" and len(parts) == 3:
        return list(zip(("condition", "book", "book"), parts))
    if word == "else" and len(parts) == 2:
        return list(zip(("book", "book"), parts))
    return None


def _inside_condition(table, word, parts):
    if word == "not" and len(parts) == 1:
        return [("condition", parts[0])]
    if word in ("has", "can") and len(parts) == 2 or word == "drawn" and len(parts) == 1:
        return [] if all([is_number(table.size, one) for one in parts]) else None
    if word == "after" and len(parts) == 1:
        return [] if is_integer(parts[0]) and 0 <= parts[0] <= MOST_AFTER else None
    return None


def _is_row(table, comers):
    if not isinstance(comers, tuple) or not all([is_comer(table, comer) for comer in comers]):
        return False
    return len(comers) <= MOST_COMERS or _is_turn(table, comers)


def _is_turn(table, comers):
    """Whether they are all people, each once: the book of a turn is one, however many they are."""
    people = tuple([number for kind, number in comers if kind == "person"])
    return len(people) == len(comers) and is_renumbering(table.size, people)
