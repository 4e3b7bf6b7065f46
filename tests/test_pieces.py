"""Promises 4.1, 4.2: idle ties and pieces."""

import unittest

from fullorring.pieces import (
    filled_lot, idle_ties, is_filled_lot, piece_kinds, pieces, round_of, sure_ties,
)
from fullorring.tables import Table, beside, full, names, ring, ties, with_tie, without_tie
from plain import (
    STUCK, PlainTest, W, dealings, great_table, odd_numbers, odd_tuples, shuffled, small_tables, some_tables, subsets,
)


def with_dealings(tables):
    """Pairs of a table and its dealings, of the tables that have one."""
    found = [(table, dealings(table.rows)) for table in tables]
    return [(table, listed) for table, listed in found if listed]


def used_ties(listed):
    return {(person, thing) for one in listed for person, thing in enumerate(one)}


def plain_pieces(table, used):
    """The pieces, hung together tie by tie."""
    mark = list(range(table.size))
    marks = {thing: table.size + thing for thing in range(table.size)}
    for person, thing in used:
        old, new = marks[thing], mark[person]
        mark = [new if one == old else one for one in mark]
        marks = {one: new if known == old else known for one, known in marks.items()}
    found = []
    for new in set(mark):
        people = tuple(person for person in range(table.size) if mark[person] == new)
        things = tuple(thing for thing in range(table.size) if marks[thing] == new)
        found.append((people, things))
    return sorted(found)


def plain_kind(table, used, piece):
    people, things = piece
    if all(thing in table.rows[person] for person in people for thing in things):
        return "full"
    inside = [(person, thing) for person, thing in used if person in people]
    twice = all([one for one, _ in inside].count(person) == 2 for person in people)
    return "ring" if twice and all([one for _, one in inside].count(thing) == 2 for thing in things) else "other"


def is_filled(table, person, thing, people):
    things = {one for other in people for one in table.rows[other]}
    return person not in people and thing in things and len(things) == len(people)


class TiesTest(PlainTest):

    def test_idle_and_sure_ties(self):
        for table, listed in with_dealings(small_tables()):
            used = used_ties(listed)
            sure = [(person, thing) for person, thing in ties(table) if all(one[person] == thing for one in listed)]
            self.assertEqual(idle_ties(table), [tie for tie in ties(table) if tie not in used], table.rows)
            self.assertEqual(sure_ties(table), sure, table.rows)

    def test_examples(self):
        self.assertEqual(idle_ties(full(4)), [])
        self.assertEqual(idle_ties(Table(((0,), (0, 1)))), [(1, 0)])
        self.assertEqual(sure_ties(Table(((0,), (0, 1)))), [(0, 0), (1, 1)])
        self.assertEqual(sure_ties(full(1)), [(0, 0)])
        self.assertEqual(sure_ties(ring(3)), [])

    def test_great_tables(self):
        self.assertEqual(idle_ties(great_table()), [(0, 39)])
        self.assertEqual(idle_ties(with_tie(great_table(), 39, 0)), [])
        self.assertEqual(sure_ties(great_table()), [])
        self.assertEqual(sure_ties(beside(beside(full(12), full(1)), names(12))), [(12, 12)])
        self.assertEqual(len(idle_ties(shuffled(great_table()))), 1)

    def test_stuck(self):
        for table in (STUCK, names(1), Table(((), ())), beside(full(12), STUCK)):
            self.assert_raises("Stuck", {}, idle_ties, table)
            self.assert_raises("Stuck", {}, sure_ties, table)

    def test_lists_are_new(self):
        for table in (W, full(1), Table(((0,), (0, 1)))):
            self.assert_new(idle_ties, table)
            self.assert_new(sure_ties, table)


class FilledLotTest(PlainTest):

    def test_there_is_one_just_for_idle_ties(self):
        for table, listed in with_dealings(small_tables() + some_tables(7, 12)):
            used = used_ties(listed)
            for person, thing in ties(table):
                lot = filled_lot(table, person, thing)
                self.assertIs(lot is None, (person, thing) in used, (table.rows, person, thing))
                if lot is not None:
                    self.assertIs(lot.__class__, tuple)
                    self.assertEqual(lot, tuple(sorted(set(lot))))
                    self.assertTrue(is_filled(table, person, thing, lot))
                    self.assert_flag(True, is_filled_lot(table, person, thing, lot))
                self.assertEqual(filled_lot(table, person, thing), lot)

    def test_is_filled_lot(self):
        for table, _ in with_dealings(small_tables()[:530:3] + some_tables(4, 30) + some_tables(5, 12)):
            for person, thing in ties(table):
                for people in subsets(range(table.size)):
                    told = is_filled_lot(table, person, thing, people)
                    self.assert_flag(is_filled(table, person, thing, people), told, table.rows, person, thing, people)

    def test_wrong_lots(self):
        table = Table(((0, 1), (0, 1), (1, 2)))
        self.assert_flag(True, is_filled_lot(table, 2, 1, (0, 1)))
        wrong = [(), (0,), (1,), (0, 2), (0, 1, 2), (1, 0), (0, 0, 1), (0, 1, 3), (-1, 0, 1), (False, 1), (0, True),
                 [0, 1], "01", b"\x00\x01", {0: 0, 1: 1}, range(2), None, 0, (0, 1, None)]
        for thing in wrong + odd_tuples((0, 1)):
            self.assert_flag(False, is_filled_lot(table, 2, 1, thing), thing)

    def test_great_tables(self):
        self.assertEqual(filled_lot(great_table(), 0, 39), (36, 37, 38, 39))
        self.assertIs(filled_lot(great_table(), 0, 0), None)
        self.assert_flag(True, is_filled_lot(great_table(), 0, 39, (36, 37, 38, 39)))
        self.assert_flag(True, is_filled_lot(great_table(), 0, 39, tuple(range(12, 40))))
        self.assert_flag(False, is_filled_lot(great_table(), 0, 39, tuple(range(37, 40))))

    def test_errors_in_their_order(self):
        judge = (lambda *arguments: is_filled_lot(*arguments, (0,)))
        blind = (lambda *arguments: is_filled_lot(*arguments, None))
        for function in (filled_lot, judge, blind):
            for thing in odd_numbers() + [3]:
                for table in (W, STUCK):
                    self.assert_raises("NoPerson", {}, function, table, thing, 0)
                    self.assert_raises("NoPerson", {}, function, table, thing, thing)
                    self.assert_raises("NoThing", {}, function, table, 0, thing)
            self.assert_raises("NoTie", {}, function, W, 0, 0)
            self.assert_raises("NoTie", {}, function, STUCK, 0, 2)
            self.assert_raises("Stuck", {}, function, STUCK, 0, 0)
            self.assert_raises("Stuck", {}, function, STUCK, 2, 1)


class PiecesTest(PlainTest):

    def test_pieces_and_kinds(self):
        for table, listed in with_dealings(small_tables()):
            used = used_ties(listed)
            found = plain_pieces(table, used)
            self.assertEqual(pieces(table), found, table.rows)
            self.assertEqual(piece_kinds(table), [plain_kind(table, used, piece) for piece in found], table.rows)

    def test_examples(self):
        self.assertEqual(piece_kinds(ring(3)), ["ring"])
        self.assertEqual(piece_kinds(names(4)), ["other"])
        self.assertEqual(piece_kinds(ring(2)), ["full"])
        self.assertEqual(piece_kinds(names(3)), ["ring"])
        self.assertEqual(piece_kinds(names(2)), ["full", "full"])
        self.assertEqual(pieces(names(2)), [((0,), (1,)), ((1,), (0,))])
        self.assertEqual(pieces(full(1)), [((0,), (0,))])
        self.assertEqual(piece_kinds(W), ["other"])
        self.assertEqual(pieces(W), [((0, 1, 2), (0, 1, 2))])

    def test_a_ring_with_idle_ties(self):
        table = with_tie(with_tie(beside(ring(3), full(2)), 0, 3), 2, 4)
        self.assertEqual(pieces(table), [((0, 1, 2), (0, 1, 2)), ((3, 4), (3, 4))])
        self.assertEqual(piece_kinds(table), ["ring", "full"])
        self.assertEqual(round_of(table, 0), (0, 0, 2, 2, 1, 1))

    def test_great_tables(self):
        found = [(tuple(lot), tuple(lot)) for lot in (range(12), range(12, 24), range(24, 36), range(36, 40))]
        self.assertEqual(pieces(great_table()), found)
        self.assertEqual(piece_kinds(great_table()), ["full", "other", "ring", "full"])
        self.assertEqual(pieces(with_tie(great_table(), 39, 0))[0][0], tuple([*range(12), 36, 37, 38, 39]))
        self.assertEqual(sorted(piece_kinds(shuffled(great_table()))), ["full", "full", "other", "ring"])

    def test_stuck(self):
        for table in (STUCK, names(1), beside(full(12), STUCK)):
            self.assert_raises("Stuck", {}, pieces, table)
            self.assert_raises("Stuck", {}, piece_kinds, table)

    def test_lists_are_new(self):
        for table in (W, full(1), names(2), great_table()):
            self.assert_new(pieces, table)
            self.assert_new(piece_kinds, table)


class RoundTest(PlainTest):

    def test_examples(self):
        self.assertEqual(round_of(ring(3), 0), (0, 0, 2, 2, 1, 1))
        self.assertEqual(round_of(names(3), 0), (0, 1, 2, 0, 1, 2))
        self.assertEqual(round_of(beside(full(2), ring(4)), 1), (2, 2, 5, 5, 4, 4, 3, 3))

    def test_rounds(self):
        tables = small_tables() + [shuffled(ring(size), seed) for size in range(3, 13) for seed in range(4)]
        for table in tables + [shuffled(great_table(), seed) for seed in range(4)]:
            if table.size <= 6 and not dealings(table.rows):
                continue
            for number, kind in enumerate(piece_kinds(table)):
                if kind == "ring":
                    self.check_round(table, pieces(table)[number], round_of(table, number))
                else:
                    self.assert_raises("NoRing", {}, round_of, table, number)

    def check_round(self, table, piece, found):
        people, things = found[::2], found[1::2]
        live = [tie for tie in ties(table) if tie not in idle_ties(table)]
        self.assertIs(found.__class__, tuple)
        self.assertEqual((tuple(sorted(people)), tuple(sorted(things))), piece)
        self.assertEqual(people[0], piece[0][0])
        self.assertEqual(things[0], min(thing for person, thing in live if person == people[0]))
        for at, person in enumerate(people):
            self.assertIn((person, things[at]), live)
            self.assertIn((person, things[at - 1]), live)

    def test_errors_in_their_order(self):
        table = beside(ring(3), full(2))
        for thing in odd_numbers() + [2]:
            self.assert_raises("Stuck", {}, round_of, STUCK, thing)
            self.assert_raises("NoNumber", {}, round_of, table, thing)
        self.assert_raises("Stuck", {}, round_of, STUCK, 0)
        self.assert_raises("NoRing", {}, round_of, table, 1)
        self.assert_raises("NoRing", {}, round_of, names(4), 0)
        self.assert_raises("NoNumber", {}, round_of, names(4), 1)
        self.assert_raises("NoRing", {}, round_of, without_tie(ring(4), 0, 0), 0)


if __name__ == "__main__":
    unittest.main()
