"""Tables and dealings out of texts."""

from fullorring.errors import BadText
from fullorring.tables import Table

MOST_FIGURES = 4


def read_table(text):
    """The table of a text, a line for each person."""
    _check_string(text)
    lines = text.split("\n")
    behind = lines.pop()
    rows = []
    for at, line in enumerate(lines, start=1):
        if not _is_line(line):
            raise BadText(at)
        rows.append(_read_line(line))
    if behind != "" or len(lines) == 0:
        raise BadText(1 + len(lines))
    return Table(tuple(rows))


def read_dealing(text):
    """The tuple of a text, with None for `-`."""
    _check_string(text)
    words = text.split(" ")
    if not all([word == "-" or is_number_word(word) for word in words]):
        raise BadText(1)
    return tuple([None if word == "-" else int(word) for word in words])


def _check_string(text):
    if not isinstance(text, str):
        raise BadText(0)


def _is_line(line):
    return line == "-" or all([is_number_word(word) for word in line.split(" ")])


def _read_line(line):
    return () if line == "-" else tuple([int(word) for word in line.split(" ")])


def is_number_word(word):
    """Whether it is a number of at most 4 figures without needless zeros."""
    # Not isdigit: that takes figures of other scripts, too.
    if not 1 <= len(word) <= MOST_FIGURES or not all([sign in "0123456789" for sign in word]):
        return False
    return word == "0" or word[0] != "0"
