"""Tables and dealings as texts."""


def table_text(table):
    """A line for each person with the things, `-` for none."""
    return "".join([_row_text(row) + "\n" for row in table.rows])


def _row_text(row):
    return dealing_text(row) if row else "-"


def dealing_text(dealing):
    """The numbers with one blank between, `-` for None."""
    return " ".join(["-" if one is None else str(one) for one in dealing])
