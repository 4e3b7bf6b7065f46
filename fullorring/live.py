"""A live draw: who draws what, one behind another, while the table may change."""

from fullorring.checks import check_person, check_thing, is_comer, is_integer
from fullorring.errors import NoComer, NotOpen, NothingDone
from fullorring.even import always_even
from fullorring.pieces import live_of
from fullorring.standings import is_sound, many_after, open_people, open_things, settled, table_behind, with_drawn
from fullorring.tables import with_tie, without_tie


class Draw:
    """A draw that is led step by step.

    NOW is the pair of the table and the history, PAST the tuple of those that were ahead of each deed. Neither is
    ever changed, but put in the place of the elder one, so that a draw can be copied and put back at any time.
    """

    def __init__(self, table):
        live_of(table)
        self.now = (table, ())
        self.past = ()

    def open_for(self, comer):
        """The list of the things, or people, that are open for a comer."""
        table = self.now[0]
        standing = self.standing()
        if not is_comer(table, comer) or _has_come(standing, comer):
            raise NoComer()
        if comer[0] == "person":
            return open_things(table, standing, comer[1])
        return open_people(table, standing, comer[1])

    def draw(self, comer, choice):
        """The comer draws one of the things, or people, that are open."""
        choices = self.open_for(comer)
        if not is_integer(choice) or choice not in choices:
            raise NotOpen()
        table, history = self.now
        pair = (comer[1], choice) if comer[0] == "person" else (choice, comer[1])
        self._go_on(table, history + (pair,))

    def strike(self, person, thing):
        """A tie is taken out of the table."""
        table, history = self.now
        check_person(table, person)
        check_thing(table, thing)
        without = without_tie(table, person, thing)
        # A tie that was drawn is missed in the standing, which is none of the table without it.
        if thing not in table.rows[person] or not is_sound(without, self.standing()):
            raise NotOpen()
        self._go_on(without, history)

    def allow(self, person, thing):
        """A tie is put into the table."""
        table, history = self.now
        check_person(table, person)
        check_thing(table, thing)
        if thing in table.rows[person]:
            raise NotOpen()
        self._go_on(with_tie(table, person, thing), history)

    def _go_on(self, table, history):
        self.past = self.past + (self.now,)
        self.now = (table, history)

    def standing(self):
        """The tuple with the thing that each has drawn, or None."""
        table, history = self.now
        drawn = (None,) * table.size
        for person, thing in history:
            drawn = with_drawn(drawn, person, thing)
        return drawn

    def history(self):
        """The tuple of the pairs of a person and a thing, in the order of their drawing."""
        return self.now[1]

    def table(self):
        """The table as it is now."""
        return self.now[0]

    def many(self):
        """How many dealings have all that was drawn."""
        return many_after(self.now[0], self.standing())

    def settled(self):
        """The dict from all people who have one thing in all these dealings, to this thing."""
        return settled(self.now[0], self.standing())

    def rest_even(self):
        """Whether all these dealings are alike likely looking ahead, in whatever order the others come up."""
        return always_even(table_behind(self.now[0], self.standing()), "ahead")

    def back(self):
        """The last deed is taken back."""
        if len(self.past) == 0:
            raise NothingDone()
        self.now = self.past[-1]
        self.past = self.past[:-1]

    def deeds(self):
        """How many deeds can be taken back."""
        return len(self.past)

    def copy(self):
        """Another draw that goes on apart."""
        other = Draw(self.now[0])
        other.now = self.now
        other.past = self.past
        return other

    def trying(self, action):
        """What the action returns that is called with the draw, which is put back to what it was."""
        now = self.now
        past = self.past
        try:
            return action(self)
        finally:
            self.now = now
            self.past = past


def _has_come(standing, comer):
    """Whether this person has drawn, or this thing was drawn."""
    if comer[0] == "person":
        return standing[comer[1]] is not None
    return comer[1] in standing
