"""The errors of the package, each with just the fields that it is made with."""


class DrawError(ValueError):
    """What all errors of the package derive from."""


class BadTable(DrawError):
    """What was passed are no rows of a table."""

    def __init__(self, part, at):
        self.part = part
        self.at = at


class NoPerson(DrawError):
    """What was passed is no number of a person, or of none that is meant."""

    def __init__(self):
        pass


class NoThing(DrawError):
    """What was passed is no number of a thing, or of none that is meant."""

    def __init__(self):
        pass


class NoNumbers(DrawError):
    """What was passed is no tuple of the numbers that are asked for."""

    def __init__(self):
        pass


class NoNumber(DrawError):
    """What was passed is no number in the bounds that are told."""

    def __init__(self):
        pass


class BadText(DrawError):
    """What was passed is no such text; the line is counted from 1, 0 for no string."""

    def __init__(self, line):
        self.line = line


class NoDealing(DrawError):
    """What was passed is no dealing of the table."""

    def __init__(self):
        pass


class NoLot(DrawError):
    """What was passed is no lot of pairs of a person and a thing."""

    def __init__(self):
        pass


class TooMany(DrawError):
    """There are more than the most that are done."""

    def __init__(self, most):
        self.most = most


class Stuck(DrawError):
    """The table has no dealing."""

    def __init__(self):
        pass


class NoRing(DrawError):
    """The piece is no ring."""

    def __init__(self):
        pass


class NoTie(DrawError):
    """The person may not get the thing."""

    def __init__(self):
        pass


class NoStanding(DrawError):
    """What was passed is no standing of the table, or no sound one."""

    def __init__(self):
        pass


class NoTurn(DrawError):
    """What was passed is no turn of the table's people."""

    def __init__(self):
        pass


class NoCustom(DrawError):
    """What was passed is no custom."""

    def __init__(self):
        pass


class NoFraction(DrawError):
    """What was passed is no fraction."""

    def __init__(self):
        pass


class NoBook(DrawError):
    """What was passed is no book for the table."""

    def __init__(self):
        pass


class NoHistory(DrawError):
    """What was passed is no history behind which somebody comes up."""

    def __init__(self):
        pass


class NoTickets(DrawError):
    """What was passed are no tickets for the table."""

    def __init__(self):
        pass


class NoSteps(DrawError):
    """What was passed are no exchanges that may be done."""

    def __init__(self):
        pass


class NoChances(DrawError):
    """What was passed are no chances of all dealings."""

    def __init__(self):
        pass


class NoPrices(DrawError):
    """What was passed are no prices of all ties."""

    def __init__(self):
        pass


class BadKinds(DrawError):
    """What was passed are no kinds."""

    def __init__(self, part):
        self.part = part


class Empty(DrawError):
    """The kinds have nobody."""

    def __init__(self):
        pass


class NoSizes(DrawError):
    """What was passed are no sizes of families."""

    def __init__(self):
        pass


class NoLooks(DrawError):
    """What was passed are no looks of the table's things."""

    def __init__(self):
        pass


class NoOutcome(DrawError):
    """What was passed is no outcome of a dealing."""

    def __init__(self):
        pass


class NoComer(DrawError):
    """What was passed is no comer, or one who has drawn or was drawn."""

    def __init__(self):
        pass


class NotOpen(DrawError):
    """What was chosen is not open."""

    def __init__(self):
        pass


class NothingDone(DrawError):
    """There is nothing to take back."""

    def __init__(self):
        pass


class NoLine(DrawError):
    """What was passed is no line of the desk."""

    def __init__(self):
        pass


class NoName(DrawError):
    """There is no table of the name."""

    def __init__(self, name):
        self.name = name
