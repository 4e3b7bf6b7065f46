"""The interface: each name in its file, with its arguments; and 0.4: what is said of everything."""

import importlib
import inspect
import unittest

from fullorring.desk import Desk
from fullorring.kinds import Kinds
from fullorring.live import Draw
from fullorring.tables import Table
from plain import PlainTest

INTERFACE = {
    "tables": [
        "Table(rows)", "ties(table)", "with_tie(table, person, thing)", "without_tie(table, person, thing)",
        "turned(table)", "renumbered(table, people, things)", "beside(one, other)", "kept(table, people, things)",
        "names(size)", "full(size)", "ring(size)",
    ],
    "texts": ["table_text(table)", "dealing_text(dealing)"],
    "reading": ["read_table(text)", "read_dealing(text)"],
    "dealings": ["dealing(table)", "short_lot(table)", "is_dealing(table, thing)", "is_short_lot(table, thing)"],
    "numbers": [
        "many_dealings(table)", "dealing_number(table, dealing)", "many_with(table, lot)", "dealing_at(table, number)",
        "all_dealings(table)",
    ],
    "pieces": [
        "idle_ties(table)", "sure_ties(table)", "pieces(table)", "piece_kinds(table)",
        "filled_lot(table, person, thing)", "is_filled_lot(table, person, thing, lot)", "round_of(table, number)",
    ],
    "standings": [
        "is_standing(table, thing)", "is_sound(table, thing)", "many_after(table, standing)",
        "open_things(table, standing, person)", "left_things(table, standing, person)",
        "open_people(table, standing, thing)", "known_of(table, standing, person)", "settled(table, standing)",
    ],
    "chances": [
        "chance(table, turn, custom, dealing)", "through(table, turn, custom)", "leaning(table, turn, custom)",
        "thing_chance(table, turn, custom, person, thing)", "likeliest(table, turn, custom)",
        "unlikeliest(table, turn, custom)", "spread(table, turn, custom)",
    ],
    "heights": ["heights(table, turn)", "is_heights(table, turn, bound, thing)"],
    "even": [
        "is_even(table, turn, custom)", "is_uneven(table, turn, custom, thing)", "is_fork(table, turn, thing)",
        "always_even(table, custom)", "is_tilted(table, custom, thing)", "uneven(table, turn, custom)",
        "fork(table, turn)", "tilted(table, custom)",
    ],
    "papers": ["paper(table)", "is_paper(table, thing)"],
    "books": [
        "next_comer(table, book, history)", "book_chance(table, book, dealing)", "book_history(table, book, dealing)",
        "book_even(table, book)", "book_uneven(table, book)", "turn_book(table, turn)",
    ],
    "booktexts": ["book_text(book)", "read_book(table, text)"],
    "plans": [
        "plan(table)", "people_plan(table)", "plan_bar(table)", "is_plan(table, thing)", "is_plan_bar(table, thing)",
    ],
    "tickets": [
        "ticket_chance(table, turn, tickets, dealing)", "even_tickets(table, turn)", "twist(table, turn)",
        "is_even_tickets(table, turn, thing)", "is_twist(table, turn, thing)",
    ],
    "exchanging": [
        "exchanges(table, dealing)", "islands(table)", "exchanged(table, dealing, steps)",
        "steps_between(table, one, other)", "is_carried(table)", "parted(table)", "stirred(table, chances)",
    ],
    "cures": [
        "is_cure(table, custom, thing)", "fewest_cure(table, custom)", "cures(table, custom)",
        "cheapest_cure(table, custom, prices)", "wish_cure(table, custom, person, thing)",
    ],
    "knowing": [
        "told_after(table, turn, dealing)", "latest(table, turn)", "earliest(table, turn)",
        "mean_told(table, turn, custom)", "quickest(table)", "telling(table)", "is_telling(table, people)",
    ],
    "kinds": [
        "Kinds(people, things, allowed)", "kinds_table(kinds)", "kinds_can(kinds)", "kinds_even(kinds, custom)",
        "families_even(sizes, custom)", "kinds_short(kinds)", "kinds_pieces(kinds)", "kinds_many(kinds, modulus)",
        "families_many(sizes, modulus)", "families(sizes)",
    ],
    "copies": [
        "outcome(table, looks, dealing)", "many_outcomes(table, looks)",
        "outcome_chance(table, looks, turn, custom, outcome)", "weights(table, looks)",
        "outcomes_even(table, looks, turn, custom)", "copies_alike(table, looks)",
    ],
    "live": ["Draw(table)"],
    "strangers": [
        "drawer_chances(table, turn, sides, pick)", "drawer_even(table, turn, sides, pick)", "even_sides(table, turn)",
    ],
    "desk": ["Desk()"],
}
METHODS = {
    Table: ["__init__", "__eq__"],
    Kinds: ["__init__", "__eq__"],
    Draw: [
        "open_for(self, comer)", "draw(self, comer, choice)", "strike(self, person, thing)",
        "allow(self, person, thing)", "standing(self)", "history(self)", "table(self)", "many(self)", "settled(self)",
        "rest_even(self)", "back(self)", "deeds(self)", "copy(self)", "trying(self, action)",
    ],
    Desk: ["tell(self, line)", "undoable(self)"],
}


class InterfaceTest(PlainTest):

    def test_names_and_arguments(self):
        for part, told in INTERFACE.items():
            module = importlib.import_module("fullorring." + part)
            for line in told:
                name = line.partition("(")[0]
                thing = getattr(module, name)
                self.assertEqual(thing.__module__, "fullorring." + part, line)
                self.assertEqual(name + str(inspect.signature(thing)), line)

    def test_classes_have_their_methods_themselves(self):
        for kind, told in METHODS.items():
            for line in told:
                method = vars(kind)[line.partition("(")[0]]
                if "(" in line:
                    self.assertEqual(method.__name__ + str(inspect.signature(method)), line)


if __name__ == "__main__":
    unittest.main()
