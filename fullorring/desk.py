"""A desk that works by lines: it keeps tables under names, and answers questions about them."""

from fullorring.chances import chance
from fullorring.cures import fewest_cure
from fullorring.errors import NoLine, NoName, NothingDone
from fullorring.even import always_even, is_even
from fullorring.numbers import many_dealings
from fullorring.pieces import idle_ties, piece_kinds
from fullorring.plans import plan
from fullorring.reading import is_number_word, read_table
from fullorring.texts import table_text
from fullorring.walks import CUSTOMS

MOST_LETTERS = 8

# What stands behind the first word of a line; a table's text may have blanks in it, all else has none.
FORMS = {
    "table": ("name", "lines"), "drop": ("name",), "names": (), "undo": (), "show": ("name",), "many": ("name",),
    "pieces": ("name",), "always": ("name", "custom"), "even": ("name", "custom", "numbers"),
    "chance": ("name", "custom", "numbers", "numbers"), "idle": ("name",), "cure": ("name", "custom"),
    "plan": ("name",),
}


def _parts_of(line):
    """The words of a line, a table's text as one."""
    if not isinstance(line, str) or "\n" in line:
        raise NoLine()
    word, _, rest = line.partition(" ")
    parts = line.split(" ")
    if word == "table":
        name, _, lines = rest.partition(" ")
        parts = [word, name, lines]
    if word not in FORMS or len(parts) != 1 + len(FORMS[word]):
        raise NoLine()
    if not all([_is_of_form(form, part) for form, part in zip(FORMS[word], parts[1:])]):
        raise NoLine()
    return parts


def _is_of_form(form, part):
    if form == "name":
        return 1 <= len(part) <= MOST_LETTERS and all([sign in "abcdefghijklmnopqrstuvwxyz" for sign in part])
    if form == "lines":
        return len(part) > 0
    if form == "custom":
        return part in CUSTOMS
    return all([is_number_word(word) for word in part.split(",")])


def _numbers(part):
    return tuple([int(word) for word in part.split(",")])


def _yes_or_no(flag):
    return "yes" if flag else "no"


def _words(parts):
    return " ".join(parts) if parts else "none"


def _show(table, _):
    return table_text(table).replace("\n", "|")


def _many(table, _):
    return str(many_dealings(table))


def _pieces(table, _):
    return _words(piece_kinds(table))


def _always(table, parts):
    return _yes_or_no(always_even(table, parts[0]))


def _even(table, parts):
    return _yes_or_no(is_even(table, _numbers(parts[1]), parts[0]))


def _chance(table, parts):
    top, bottom = chance(table, _numbers(parts[1]), parts[0], _numbers(parts[2]))
    return f"{top}/{bottom}"


def _idle(table, _):
    return _words([f"{person}-{thing}" for person, thing in idle_ties(table)])


def _cure(table, parts):
    return str(fewest_cure(table, parts[0]))


def _plan(table, _):
    return _yes_or_no(plan(table) is not None)


ANSWERS = {
    "show": _show, "many": _many, "pieces": _pieces, "always": _always, "even": _even, "chance": _chance,
    "idle": _idle, "cure": _cure, "plan": _plan,
}


class Desk:
    """Tables under names, and what stood under them ahead of each line that can be taken back."""

    def __init__(self):
        self.tables = {}
        self.past = []

    def tell(self, line):
        """The answer to a line."""
        parts = _parts_of(line)
        word = parts[0]
        if word == "names":
            return _words(sorted(list(self.tables)))
        if word == "undo":
            return self._undo()
        name = parts[1]
        if word == "table":
            return self._keep(name, read_table(parts[2].replace("|", "\n")))
        if name not in self.tables:
            raise NoName(name)
        if word == "drop":
            return self._keep(name, None)
        action = ANSWERS[word]
        return action(self.tables[name], parts[2:])

    def _keep(self, name, table):
        """Keep a table, or none, under a name, so that it can be taken back."""
        self.past.append((name, self.tables.get(name)))
        self._put(name, table)
        return "ok"

    def _put(self, name, table):
        if table is None:
            del self.tables[name]
        else:
            self.tables[name] = table

    def _undo(self):
        if len(self.past) == 0:
            raise NothingDone()
        name, table = self.past.pop()
        self._put(name, table)
        return "ok"

    def undoable(self):
        """How many lines can be taken back."""
        return len(self.past)
