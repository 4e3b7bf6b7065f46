"""Promise 8.3: books as texts."""

import random
import unittest

from bookish import book_of, deep_book, deep_condition, some_books
from fullorring.booktexts import book_text, read_book
from fullorring.tables import beside, full, names
from plain import STUCK, PlainTest, odd_numbers
from test_books import right_books

N4 = names(4)
BAD = {"line": 1}

TEXTS = [
    ("row 0", ("row", ())), ("row 1 p3", ("row", (("person", 3),))),
    ("row 3 p3 x0 p1", ("row", (("person", 3), ("thing", 0), ("person", 1)))), ("named", ("named",)),
    ("giver", ("giver",)), ("fewest", ("fewest",)), ("most", ("most",)),
    ("if has 1 2 named giver", ("if", ("has", 1, 2), ("named",), ("giver",))),
    ("if drawn 3 most fewest", ("if", ("drawn", 3), ("most",), ("fewest",))),
    ("if after 12 most row 1 x2", ("if", ("after", 12), ("most",), ("row", (("thing", 2),)))),
    ("if not can 0 1 named giver", ("if", ("not", ("can", 0, 1)), ("named",), ("giver",))),
    ("if not not after 0 named giver", ("if", ("not", ("not", ("after", 0))), ("named",), ("giver",))),
    ("else named else row 1 p0 most", ("else", ("named",), ("else", ("row", (("person", 0),)), ("most",)))),
    ("else if after 1 named giver most", ("else", ("if", ("after", 1), ("named",), ("giver",)), ("most",))),
]
WORDS = ["row", "named", "giver", "fewest", "most", "if", "else", "has", "drawn", "after", "can", "not"]
MORE = ["0", "1", "2", "3", "4", "12", "13", "p0", "p3", "x1", "x3", "p4"]


def plain_book(words, size):
    """The book at the head of the words and the words behind it; None where there is none."""
    word, words = (words[0], words[1:]) if words else ("", [])
    if word in ("named", "giver", "fewest", "most"):
        return (word,), words
    if word == "row" and words and words[0].isdigit() and len(words) > int(words[0]) <= 24:
        comers = words[1:int(words[0]) + 1]
        if all(one[:1] in ("p", "x") and one[1:].isdigit() and int(one[1:]) < size for one in comers):
            row = tuple(("person" if one[0] == "p" else "thing", int(one[1:])) for one in comers)
            return (word, row), words[len(comers) + 1:]
    if word == "else":
        return plain_parts((word,), words, size, 2)
    if word == "if":
        first = plain_condition(words, size)
        return first and plain_parts((word, first[0]), first[1], size, 2)
    return None


def plain_parts(book, words, size, many):
    for _ in range(many):
        found = plain_book(words, size)
        if found is None:
            return None
        book, words = book + found[:1], found[1]
    return book, words


def plain_condition(words, size):
    word, words = (words[0], words[1:]) if words else ("", [])
    if word == "not":
        found = plain_condition(words, size)
        return found and ((word, found[0]), found[1])
    many = {"has": 2, "can": 2, "drawn": 1, "after": 1}.get(word, 0)
    bound = 13 if word == "after" else size
    if many and len(words) >= many and all(one.isdigit() and int(one) < bound for one in words[:many]):
        return (word, *[int(one) for one in words[:many]]), words[many:]
    return None


class BookTextTest(PlainTest):

    def test_examples(self):
        for text, book in TEXTS:
            self.assertEqual(book_text(book), text)
            self.assertEqual(read_book(N4, text), book)

    def test_there_and_back(self):
        for size in (1, 2, 4, 9, 12):
            for book in some_books(size, 120):
                text = book_text(book)
                self.assertNotIn("\n", text)
                self.assertEqual(plain_book(text.split(" "), size), (book, []), text)
                self.assertEqual(read_book(full(size), text), book)
                self.assertEqual(read_book(full(size), text), read_book(full(size), text))
        for book in right_books():
            self.assertEqual(read_book(N4, book_text(book)), book)
        great = beside(full(12), beside(full(12), full(4)))
        book = ("if", ("can", 27, 10), ("row", (("person", 27), ("thing", 12))), ("most",))
        self.assertEqual(book_text(book), "if can 27 10 row 2 p27 x12 most")
        self.assertEqual(read_book(great, book_text(book)), book)

    def test_a_table_without_a_dealing_has_books(self):
        self.assertEqual(read_book(STUCK, "row 1 x2"), ("row", (("thing", 2),)))

    def test_bounds(self):
        for right, wrong in [
            (deep_book(15), deep_book(16)), (book_of(100), book_of(101)), (book_of(99), book_of(102)),
            (("if", deep_condition(14), ("named",), ("most",)), ("if", deep_condition(15), ("named",), ("most",))),
            (("row", (("thing", 0),) * 24), ("row", (("thing", 0),) * 25)),
            (("if", ("after", 12), ("named",), ("most",)), ("if", ("after", 13), ("named",), ("most",))),
        ]:
            self.assertEqual(read_book(N4, book_text(right)), right)
            self.assert_raises("BadText", BAD, read_book, N4, book_text(wrong))
        for text in ("row 1 p3", "row 1 x3", "if has 3 0 most named", "if can 0 3 most named", "if drawn 3 most named"):
            self.assertEqual(book_text(read_book(N4, text)), text)
            self.assert_raises("BadText", BAD, read_book, full(3), text)
            self.assert_raises("BadText", BAD, read_book, N4, text.replace("3", "4"))
            self.assert_raises("BadText", BAD, read_book, N4, text.replace("3", "9999"))


class WrongTextsTest(PlainTest):

    def test_no_string(self):
        for thing in odd_numbers() + [("named",), b"named", ["named"], ("row", ())]:
            if not isinstance(thing, str):
                self.assert_raises("BadText", {"line": 0}, read_book, N4, thing)
                self.assert_raises("BadText", {"line": 0}, read_book, STUCK, thing)
            else:
                self.assert_raises("BadText", BAD, read_book, N4, thing)

    def test_no_book(self):
        wrong = [
            "", " ", "\n", "row", "row p0", "row 1", "row 2 p0", "row 0 p0", "row 1 p0 p1", "row 1 0", "row 1 p", "row 1 q0",
            "row 1 P0", "row 1 p00", "row 1 p-1", "row 1 p+1", "row 1 person 0", "row 01 p0", "row 00", "row -1", "row 1 named",
            "row +1 p0", "row 1 1p", "row 1 p1x", "row 1 p 1", "row x p0", "row named", "row row 0", "row 99999", "row 25",
            "row 10000 p0", "p0", "x1", "0", "nobody", "Named", "NAMED", "named named", "named 0", "named giver", "name",
            "if", "if after 1", "if after 1 named", "if after 1 named named named", "if named named named", "if after named most",
            "if after 01 named most", "if after 1 2 named most", "if has 1 named most", "if has 1 2 3 named most",
            "if has p1 2 named most", "if not named most", "if not not named most", "if after 1 after 1 named", "after 1",
            "not after 1", "else", "else named", "else named named named", "else after 1 named", "else else named named",
            "if can 1 02 named most", "if drawn 1 2 named most", "if drawn x1 named most", "if drawn named most", "has 1 2",
            "if after 1 named 5", "else named 5", "else p1 named", "row 2 p0 p1 x0", "row 1 p0 most", "if after -1 named most",
        ]
        for text in wrong:
            self.assert_raises("BadText", BAD, read_book, N4, text)

    def test_signs_that_are_more(self):
        for text, _ in TEXTS:
            for at in range(len(text) + 1):
                for sign in (" ", "\t", "\n", "0", "-", "a", "named "):
                    changed = text[:at] + sign + text[at:]
                    if plain_book(changed.split(" "), 4) is None or sign in " \t\n" or self.has_zeros(changed):
                        self.assert_raises("BadText", BAD, read_book, N4, changed)
            for at in range(len(text)):
                for sign in ("", "\n", "\t", "Z"):
                    changed = text[:at] + sign + text[at + 1:]
                    found = plain_book(changed.split(" "), 4)
                    if found is None or found[1]:
                        self.assert_raises("BadText", BAD, read_book, N4, changed)
            for changed in (text + " ", " " + text, text + "\n", text.replace(" ", "  "), text.replace(" ", "\t"), text + "\t"):
                if changed != text:
                    self.assert_raises("BadText", BAD, read_book, N4, changed)

    def has_zeros(self, text):
        """Whether a number has needless zeros, or there are words left behind the book."""
        numbers = [word.lstrip("px") for word in text.split(" ")]
        return any(word[:1] == "0" and len(word) > 1 for word in numbers) or plain_book(text.split(" "), 4)[1] != []

    def test_words_at_random(self):
        chance = random.Random(11)
        right = 0
        for _ in range(20000):
            words = [chance.choice(chance.choice([WORDS, MORE])) for _ in range(chance.randrange(1, 8))]
            found = plain_book(words, 4)
            text = " ".join(words)
            if found is not None and found[1] == []:
                right += 1
                self.assertEqual(read_book(N4, text), found[0], text)
            else:
                self.assert_raises("BadText", BAD, read_book, N4, text)
        self.assertGreater(right, 300)

    def test_very_long_texts(self):
        for word in WORDS + MORE + ["", "\n", "if after 1", "else named", "if not", "row 24", "row 9999", "p1 x1"]:
            for many in (30, 101, 1500):
                for behind in ("", " named", " named named", " after 1 named most", " most" * many):
                    for ahead in ("", "else ", "if ", "row 1 ", "row 24 "):
                        text = ahead + " ".join([word] * many) + behind
                        if not (text.startswith("row 24 p") and behind == "" and many == 24):
                            self.assert_raises("BadText", BAD, read_book, N4, text)
        self.assert_raises("BadText", BAD, read_book, N4, "else " * 20000 + "named " * 20000 + "named")
        self.assert_raises("BadText", BAD, read_book, N4, "if " + "not " * 20000 + "after 1 named most")
        self.assert_raises("BadText", BAD, read_book, N4, "named" * 20000)
        self.assert_raises("BadText", BAD, read_book, N4, "if after " + "1" * 20000 + " named most")


if __name__ == "__main__":
    unittest.main()
