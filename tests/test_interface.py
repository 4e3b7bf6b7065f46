"""The interface: each name in its file, with its arguments; and 0.4: what is said of everything."""

import importlib
import inspect
import unittest

from fullorring.tables import Table
from plain import PlainTest

INTERFACE = {
    "tables": [
        "Table(rows)", "ties(table)", "with_tie(table, person, thing)", "without_tie(table, person, thing)",
        "turned(table)", "renumbered(table, people, things)", "beside(one, other)", "kept(table, people, things)",
        "names(size)", "full(size)", "ring(size)",
    ],
    "texts": ["table_text(table)", "dealing_text(dealing)"],
    "reading": ["read_table(text)", "read_dealing(text)"],
    "dealings": ["dealing(table)", "short_lot(table)", "is_dealing(table, thing)", "is_short_lot(table, thing)"],
    "numbers": [
        "many_dealings(table)", "dealing_number(table, dealing)", "many_with(table, lot)", "dealing_at(table, number)",
        "all_dealings(table)",
    ],
    "pieces": [
        "idle_ties(table)", "sure_ties(table)", "pieces(table)", "piece_kinds(table)",
        "filled_lot(table, person, thing)", "is_filled_lot(table, person, thing, lot)", "round_of(table, number)",
    ],
    "standings": [
        "is_standing(table, thing)", "is_sound(table, thing)", "many_after(table, standing)",
        "open_things(table, standing, person)", "left_things(table, standing, person)",
        "open_people(table, standing, thing)", "known_of(table, standing, person)", "settled(table, standing)",
    ],
    "chances": [
        "chance(table, turn, custom, dealing)", "through(table, turn, custom)", "leaning(table, turn, custom)",
        "thing_chance(table, turn, custom, person, thing)", "likeliest(table, turn, custom)",
        "unlikeliest(table, turn, custom)", "spread(table, turn, custom)",
    ],
    "heights": ["heights(table, turn)", "is_heights(table, turn, bound, thing)"],
    "even": [
        "is_even(table, turn, custom)", "is_uneven(table, turn, custom, thing)", "is_fork(table, turn, thing)",
        "always_even(table, custom)", "is_tilted(table, custom, thing)", "uneven(table, turn, custom)",
        "fork(table, turn)", "tilted(table, custom)",
    ],
    "papers": ["paper(table)", "is_paper(table, thing)"],
    "books": [
        "next_comer(table, book, history)", "book_chance(table, book, dealing)", "book_history(table, book, dealing)",
        "book_even(table, book)", "book_uneven(table, book)", "turn_book(table, turn)",
    ],
    "booktexts": ["book_text(book)", "read_book(table, text)"],
    "plans": [
        "plan(table)", "people_plan(table)", "plan_bar(table)", "is_plan(table, thing)", "is_plan_bar(table, thing)",
    ],
    "tickets": [
        "ticket_chance(table, turn, tickets, dealing)", "even_tickets(table, turn)", "twist(table, turn)",
        "is_even_tickets(table, turn, thing)", "is_twist(table, turn, thing)",
    ],
}


class InterfaceTest(PlainTest):

    def test_names_and_arguments(self):
        for part, told in INTERFACE.items():
            module = importlib.import_module("fullorring." + part)
            for line in told:
                name = line.partition("(")[0]
                thing = getattr(module, name)
                self.assertEqual(thing.__module__, "fullorring." + part, line)
                self.assertEqual(name + str(inspect.signature(thing)), line)

    def test_table_has_its_methods_itself(self):
        self.assertIn("__eq__", vars(Table))
        self.assertIn("__init__", vars(Table))


if __name__ == "__main__":
    unittest.main()
