"""Promises 18.1, 18.2: the desk."""

import random
import unittest

from fullorring.chances import chance
from fullorring.cures import fewest_cure
from fullorring.desk import Desk
from fullorring.errors import DrawError
from fullorring.even import always_even, is_even
from fullorring.live import Draw
from fullorring.numbers import many_dealings
from fullorring.pieces import idle_ties, piece_kinds
from fullorring.plans import plan
from fullorring.tables import Table, beside, full, names, ring, ties
from fullorring.texts import table_text
from plain import CUSTOMS, STUCK, W, PlainTest, all_tables, listed, odd_numbers, odd_tuples, some_tables, turns

W_LINES = "1 2|0 1 2|0 1 2|"


def lines_of(table):
    return table_text(table).replace("\n", "|")


def commas(numbers):
    return ",".join(str(number) for number in numbers)


def desk_with(**tables):
    desk = Desk()
    for name, table in tables.items():
        assert desk.tell(f"table {name} {lines_of(table)}") == "ok"
    return desk


def state(desk):
    """All that a desk keeps, which is then put back as it was."""
    found = [desk.undoable(), desk.tell("names")]
    for name in desk.tell("names").split() if desk.tell("names") != "none" else []:
        found.append(desk.tell("show " + name))
    return found


class KeepingTest(PlainTest):

    def test_lines_one_behind_another(self):
        """Many lines on a desk, and on plain dicts."""
        chance_of = random.Random(21)
        for _ in range(30):
            desk, held, past = Desk(), {}, []
            for _ in range(40):
                word = chance_of.choice(("table", "table", "drop", "undo", "show", "names"))
                name = chance_of.choice(("a", "b", "ab", "zzzzzzzz"))
                if word == "table":
                    table = chance_of.choice((W, full(1), STUCK, names(4), ring(12)))
                    past.append(dict(held))
                    held[name] = table
                    self.assertEqual(desk.tell(f"table {name} {lines_of(table)}"), "ok")
                elif word == "undo" and past:
                    held = past.pop()
                    self.assertEqual(desk.tell("undo"), "ok")
                elif word == "undo":
                    self.assert_raises("NothingDone", {}, desk.tell, "undo")
                elif word in ("drop", "show") and name not in held:
                    self.assert_raises("NoName", {"name": name}, desk.tell, f"{word} {name}")
                elif word == "drop":
                    past.append(dict(held))
                    del held[name]
                    self.assertEqual(desk.tell("drop " + name), "ok")
                self.assertEqual(desk.undoable(), len(past))
                self.assertEqual(desk.tell("names"), " ".join(sorted(held)) or "none")
                for one, table in held.items():
                    self.assertEqual(desk.tell("show " + one), lines_of(table))

    def test_in_the_place_of_an_elder_one(self):
        desk = Desk()
        self.assertEqual((desk.tell("names"), desk.undoable()), ("none", 0))
        self.assertEqual(desk.tell("table a " + W_LINES), "ok")
        self.assertEqual(desk.tell("table a 0|"), "ok")
        self.assertEqual(desk.tell("table b -|"), "ok")
        self.assertEqual((desk.tell("show a"), desk.tell("show b"), desk.tell("names")), ("0|", "-|", "a b"))
        self.assertEqual(desk.tell("drop a"), "ok")
        self.assertEqual(desk.undoable(), 4)
        self.assert_raises("NoName", {"name": "a"}, desk.tell, "show a")
        self.assert_raises("NoName", {"name": "a"}, desk.tell, "drop a")
        self.assertEqual((desk.tell("undo"), desk.tell("show a")), ("ok", "0|"))
        self.assertEqual((desk.tell("undo"), desk.tell("names")), ("ok", "a"))
        self.assertEqual((desk.tell("undo"), desk.tell("show a")), ("ok", W_LINES))
        self.assertEqual(desk.tell("table c 0|"), "ok")
        self.assertEqual(desk.undoable(), 2)
        self.assertEqual((desk.tell("undo"), desk.tell("undo"), desk.tell("names"), desk.undoable()), ("ok", "ok", "none", 0))
        self.assert_raises("NothingDone", {}, desk.tell, "undo")
        self.assertEqual(desk.undoable(), 0)

    def test_the_same_table_again_counts(self):
        desk = desk_with(a=W)
        self.assertEqual(desk.tell("table a " + W_LINES), "ok")
        self.assertEqual(desk.undoable(), 2)
        self.assertEqual((desk.tell("undo"), desk.tell("show a")), ("ok", W_LINES))

    def test_names_ascending(self):
        desk = Desk()
        for name in ("b", "aa", "z", "a", "ab", "abcdefgh", "names", "undo", "table"):
            desk.tell(f"table {name} 0|")
        self.assertEqual(desk.tell("names"), "a aa ab abcdefgh b names table undo z")
        self.assertEqual(desk.tell("show names"), "0|")
        self.assertEqual(desk.tell("many undo"), "1")

    def test_desks_are_apart(self):
        one, other = desk_with(a=W), Desk()
        self.assertEqual((one.tell("names"), other.tell("names")), ("a", "none"))
        self.assertFalse(one == W)
        self.assertFalse(one == other)


class AnswersTest(PlainTest):

    def answer(self, desk, line):
        """The answer, or the class and the fields of the error."""
        try:
            told = desk.tell(line)
            self.assertIs(told.__class__, str)
            return told
        except DrawError as error:
            return error.__class__, vars(error)

    def right(self, function, told):
        try:
            return told(function())
        except DrawError as error:
            return error.__class__, vars(error)

    def test_answers(self):
        def flag(value):
            return "yes" if value else "no"

        tables = all_tables(2) + all_tables(3)[::13] + some_tables(4, 16) + some_tables(5, 6) + [
            W, STUCK, full(1), ring(3), names(4), names(5), full(5), beside(W, ring(4)), full(7), names(12), ring(12), Table(((),)),
        ]
        for table in tables:
            desk = desk_with(t=table)
            before = state(desk)
            for line, function, told in [
                ("many t", lambda: many_dealings(table), str),
                ("show t", lambda: table, lines_of),
                ("pieces t", lambda: piece_kinds(table), " ".join),
                ("idle t", lambda: idle_ties(table), lambda found: " ".join(f"{person}-{thing}" for person, thing in found) or "none"),
                ("plan t", lambda: plan(table) is not None, flag),
            ]:
                self.assertEqual(self.answer(desk, line), self.right(function, told), (table.rows, line))
            turn = turns(table.size)[-2:][0] if table.size < 6 else tuple(range(table.size))[::-1]
            for custom in CUSTOMS:
                line = f"always t {custom}"
                self.assertEqual(self.answer(desk, line), self.right(lambda: always_even(table, custom), flag), (table.rows, line))
                line = f"cure t {custom}"
                self.assertEqual(self.answer(desk, line), self.right(lambda: fewest_cure(table, custom), str), (table.rows, line))
                if table.size < 8:
                    line = f"even t {custom} {commas(turn)}"
                    self.assertEqual(self.answer(desk, line), self.right(lambda: is_even(table, turn, custom), flag), (table.rows, line))
                for lot in list(listed(table.rows)[:2] if table.size < 7 else []) + [tuple(range(table.size)), (0,), (0, 0), (9999,) * 3]:
                    line = f"chance t {custom} {commas(turn)} {commas(lot)}"
                    self.assertEqual(self.answer(desk, line), self.right(
                        lambda: chance(table, turn, custom, lot), lambda share: f"{share[0]}/{share[1]}"), (table.rows, line))
            self.assertEqual(state(desk), before)

    def test_examples(self):
        desk = desk_with(n=names(4), w=W, r=ring(3), s=STUCK, i=Table(((0,), (0, 1))))
        for line, told in [
            ("many n", "9"), ("many s", "0"), ("pieces n", "other"), ("pieces r", "ring"), ("pieces i", "full full"), ("idle i", "1-0"),
            ("idle w", "none"), ("always r ahead", "yes"), ("always r anew", "no"), ("even w ahead 0,1,2", "yes"), ("even w ahead 1,0,2", "no"),
            ("even w strict 1,0,2", "yes"), ("chance w ahead 1,0,2 1,0,2", "1/6"), ("chance w strict 1,0,2 1,0,2", "1/4"), ("cure n ahead", "2"),
            ("cure r ahead", "0"), ("cure r anew", "1"), ("plan n", "yes"), ("show w", W_LINES), ("names", "i n r s w"),
        ]:
            self.assertEqual(desk.tell(line), told, line)
        desk.tell("table one 0|")
        self.assertEqual((desk.tell("chance one near 0 0"), desk.tell("even one anew 0")), ("1/1", "yes"))
        desk.tell("table five " + lines_of(names(5)))
        self.assertEqual(desk.tell("plan five"), "no")

    def test_what_the_functions_raise(self):
        desk = desk_with(w=W, s=STUCK, n=names(7))
        before = state(desk)
        for line, error, fields in [
            ("always w near", "NoCustom", {}), ("always w strict", "NoCustom", {}), ("cure w strict", "NoCustom", {}), ("cure s near", "NoCustom", {}),
            ("always s ahead", "Stuck", {}), ("cure s anew", "Stuck", {}), ("pieces s", "Stuck", {}), ("idle s", "Stuck", {}), ("plan s", "Stuck", {}),
            ("even s ahead 0,1,2", "Stuck", {}), ("even s ahead 0,1", "NoTurn", {}), ("even w ahead 0,1,1", "NoTurn", {}), ("even w ahead 0", "NoTurn", {}),
            ("even w ahead 0,1,2,3", "NoTurn", {}), ("even w ahead 9999", "NoTurn", {}), ("chance w ahead 0,1 9,9,9", "NoTurn", {}),
            ("chance w ahead 0,1,2 0,1,2", "NoDealing", {}), ("chance s ahead 0,1,2 0,1,2", "NoDealing", {}), ("chance w ahead 0,1,2 1,0", "NoDealing", {}),
            ("plan n", "TooMany", {"most": 6}), ("cure n ahead", "TooMany", {"most": 20}),
        ]:
            self.assert_raises(error, fields, desk.tell, line)
            self.assertEqual(state(desk), before)


class FormsTest(PlainTest):

    def test_no_line(self):
        desk = desk_with(a=W)
        before = state(desk)
        right = ["table b 0|", "drop a", "names", "undo", "show a", "many a", "pieces a", "always a ahead", "even a ahead 0,1,2",
                 "chance a ahead 0,1,2 1,0,2", "idle a", "cure a ahead", "plan a"]
        wrong = ["", " ", "\t", "\n", "a", "tables a 0|", "Table a 0|", "TABLE a 0|", "tell", "none", "ok", "names a", "undo a", "undo 1", "shows a",
                 "show a b", "many", "many a a", "pieces", "always a", "always ahead", "always a ahead 0", "even a ahead", "even a 0,1,2 ahead",
                 "chance a ahead 0,1,2", "chance a ahead 0,1,2 1,0,2 0", "idle", "idle a a", "cure a", "cure a ahead ahead", "plan", "plan a b",
                 "table", "table ", "table  ", "table a", "table a ", "table  0|", "table a0 0|", "table 0|", "drop", "drop ", "drop a b", "show"]
        for line in right:
            if not line.startswith("table"):
                wrong += [line + " ", line + "  ", line.replace(" ", "  ", 1) + ("" if " " in line else " "), line + " x"]
            wrong += [" " + line, "\t" + line, line + "\n", "\n" + line, line.replace(" ", "\t") + "\t", line.upper(), line[1:], line.capitalize(),
                      line.replace(" ", "\n", 1) + "\n", line.replace(" a", "  a", 1) if " a" in line else " " + line]
        for name in ("A", "aB", "abcdefghi", "a1", "a-b", "1", "a,b", "a_b", "", "|", "a|", "-", "."):
            for line in right:
                if " a" in line:
                    wrong.append(line.replace(" a", " " + name, 1))
            wrong.append(f"table {name} 0|")
        for custom in ("Ahead", "AHEAD", "ahead,", "ahea", "aheads", "always", "none", "0", "near,anew", "", "strict\t"):
            wrong += [f"always a {custom}", f"even a {custom} 0,1,2", f"chance a {custom} 0,1,2 1,0,2", f"cure a {custom}"]
        for numbers in ("", ",", "0,", ",0", "0,,1", "00,1,2", "0,01,2", "01", "0;1;2", "0,1,2,", "-1,0", "+1,0", "0,1,x", "a", "0.1", "0-1-2",
                        "10000", "0,1,10000", "0,1,00002", "0, 1,2", "None", "-", "0,1,-", "0x1", "1_0", "0,1,2|", "0,1,2\t"):
            wrong += [f"even a ahead {numbers}", f"chance a ahead {numbers} 1,0,2", f"chance a ahead 0,1,2 {numbers}"]
        for line in wrong:
            self.assert_raises("NoLine", {}, desk.tell, line)
            self.assertEqual(state(desk), before, line)
        for line in right:
            desk.tell(line)

    def test_no_string(self):
        desk = desk_with(a=W)
        for line in odd_numbers() + odd_tuples((0, 1)) + [b"names", ["names"], ("names",), {"names": 1}, desk, Draw(W), Desk]:
            if not isinstance(line, str):
                self.assert_raises("NoLine", {}, desk.tell, line)
            elif line != "undo":
                self.assert_raises("NoLine", {}, desk.tell, line)
        self.assertEqual(desk.undoable(), 1)

    def test_texts_of_tables(self):
        desk = desk_with(a=W)
        before = state(desk)
        for lines, line in [
            ("0", 1), ("|", 1), ("||", 1), (" ", 1), ("x", 1), ("0||", 2), ("|0|", 1), ("0|0", 2), ("0|x|", 2), ("0|x", 2), ("1 2|0 1 2|0 1 2", 3),
            ("00|", 1), ("0 01|", 1), ("10000|", 1), ("0|10000|", 2), (" 0|", 1), ("0 |", 1), ("0  1|", 1), ("0\t1|", 1), ("0\t|", 1), ("-1|", 1),
            ("+1|", 1), ("- -|", 1), ("0 -|", 1), ("a|", 1), ("0|-|x|y|", 3), ("1 2||0 1 2|", 2), ("0|\t", 2), ("0,1|", 1), ("0.|", 1),
        ]:
            for name in ("a", "new"):
                self.assert_raises("BadText", {"line": line}, desk.tell, f"table {name} {lines}")
                self.assertEqual(state(desk), before, lines)
        for lines, part, at in [
            ("1|", "row", 0), ("0|1 0|", "row", 1), ("0 0|1|", "row", 0), ("0|9999|", "row", 1), ("0|" * 13, "rows", -1), ("5|1 0|", "row", 0),
        ]:
            for name in ("a", "new"):
                self.assert_raises("BadTable", {"part": part, "at": at}, desk.tell, f"table {name} {lines}")
                self.assertEqual(state(desk), before, lines)
        for lines in ("-|", "0|0|", "0|-|", "0|" * 12, "0 1|1|", "11|" * 12):
            self.assertEqual(desk.tell("table new " + lines), "ok")
            self.assertEqual(desk.tell("show new"), lines)

    def test_no_name(self):
        desk = desk_with(a=W, b=full(1))
        before = state(desk)
        for name in ("c", "aa", "ab", "abcdefgh", "names"):
            for line in ("drop {}", "show {}", "many {}", "pieces {}", "always {} ahead", "always {} near", "even {} ahead 0", "chance {} near 5 9999",
                         "idle {}", "cure {} strict", "plan {}"):
                self.assert_raises("NoName", {"name": name}, desk.tell, line.format(name))
                self.assertEqual(state(desk), before)

    def test_letters_alone(self):
        desk = Desk()
        self.assertEqual(desk.tell("table abcdefgh 0|"), "ok")
        self.assertEqual(desk.tell("table zyxwvuts 0|"), "ok")
        self.assert_raises("NoLine", {}, desk.tell, "table abcdefghi 0|")
        self.assertEqual(desk.tell("even abcdefgh ahead 0"), "yes")
        self.assert_raises("NoTurn", {}, desk.tell, "even abcdefgh ahead 1000")
        self.assert_raises("NoTurn", {}, desk.tell, "even abcdefgh ahead 9999,0")
        self.assert_raises("NoLine", {}, desk.tell, "even abcdefgh ahead 10000,0")
        self.assertEqual(len(ties(full(1))), 1)


if __name__ == "__main__":
    unittest.main()
