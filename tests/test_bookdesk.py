"""[85], [86], [87]: a desk is asked with texts and answers with texts."""

import random
import unittest

from mustmays.bookdesk import Desk
from mustmays.books import Book
from mustmays.booktexts import deed_line, house_word, showing_text
from mustmays.errors import LackError, MustError, NoHand, NoMore, NoName, NoPaper, NoRow, NoRules, NoStep
from mustmays.sayingtexts import saying_text
from tests.bookwords import WORD, bent_texts, deed_word, fits_word, straight_word
from tests.judges import let_houses
from tests.plainbook import PlainBook, Refused
from tests.test_booklogs import plain_log
from tests.test_books_plainly import done, next_row

FIRST = "book h:on,self;k:-/-"
ROWS = (
    "lay a T from -", "drop a", "hand h", "bare h", "put h on", "take h on", "bridge h k", "unbridge h k", "undo",
    "count",
    "log", "house", "names", "saying a", "showing a", "whole a", "ask T")


def row_stands(text):
    """Whether a text is one of a desk's rows, by [85] and [83]."""
    words = text.split(" ")
    if words[0] == "book":
        return straight_word(["book", "LET HOUSE"], words) is None
    if words[0] in ("undo", "count", "log", "house", "names"):
        return len(words) == 1
    if words[0] in ("saying", "showing", "whole"):
        return len(words) == 2 and fits_word(WORD, words[1])
    if words[0] == "ask":
        return len(words) == 2 and fits_word("SAYING", words[1])
    return deed_word(words) is None


class Desks(unittest.TestCase):
    def check_refused(self, desk, text, error, *fields):
        with self.assertRaises(error) as caught:
            desk.say(text)
        self.assertEqual(tuple(vars(caught.exception).values()), fields)

    def desk(self, *texts):
        desk = Desk()
        for text in (FIRST, *texts):
            desk.say(text)
        return desk

    def test_ahead_of_the_first_book(self):
        desk = Desk()
        for text in ROWS + ("", "book", "book h", "book h:-;k:on/h>k", "none"):
            self.check_refused(desk, text, NoRow, text)
        self.assertEqual(desk.say(FIRST), "ok")
        self.assertEqual(desk.say("log"), FIRST)

    def test_rows_that_are_none(self):
        desk = self.desk()
        for text in (
                "", " ", "none", "Count", "count ", " count", "count 1", "undo 1", "log log", "names ", "house h",
                "saying",
                "saying ", "saying A", "saying a b", "showing", "showing a ", "whole", "whole a 3", "whole abcdefghi",
                "ask",
                "ask ", "ask (a", "ask {a}b", "ask ~{a}b", "ask a b", "ask  a", "drop", "drop  a", "drop a ", "lay a",
                "lay a T",
                "lay a T from - ", "lay a  T from -", "lay a {a}b from -", "put h must", "put h", "hand", "hand H",
                "bridge h",
                "bridge h k ", "unbridge", "take h none", "bare 0", "book", "book ", "book h:-/- ", "book  h:-/-",
                "book h:on",
                "book h:round/-", "book h:-;k:on/h>k", "book h:-;k:-/h>k;k>h", "library", "elder 0", "walks", "len",
                "do", "say"):
            ahead = desk.say("log")
            self.check_refused(desk, text, NoRow, text)
            self.assertEqual(desk.say("log"), ahead)
            self.assertFalse(row_stands(text), text)

    def test_book(self):
        desk = self.desk("lay a T from -")
        self.assertEqual(desk.say("book k:-/-"), "ok")
        self.assertEqual(desk.say("log"), "book k:-/-")
        self.assertEqual(desk.say("names"), "-")
        self.assertEqual(desk.say("count"), "0")
        self.check_refused(desk, "book k:round/-", NoRow, "book k:round/-")
        self.assertEqual(desk.say("house"), "k:-/-")

    def test_deeds(self):
        desk = self.desk()
        for text, told in (
                ("lay self ([h]a>a) rule self h a", "([h]a>a) -"), ("lay t T from -", "T -"),
                ("lay by (F>F) from - | ([h]a>a) by self", "([h]a>a) -"),
                ("lay last T from - | ([h]a>a) by by", "([h]a>a) -"),
                ("drop t", "-"), ("hand j", "-"), ("put j step", "-"), ("take j step", "-"), ("bare j", "-"),
                ("bridge h k", "-"),
                ("unbridge h k", "-"), ("names", "self by last"), ("take h self", "self,by,last"), ("names", "-"),
                ("undo", "take h self"),
                ("names", "self by last"), ("lay self T from -", "T by,last"), ("names", "self"),
                ("undo", "lay self T from -"), ("drop by", "last"), ("undo", "drop by"), ("drop self", "by,last"),
                ("count", "12")):
            self.assertEqual(desk.say(text), told, text)

    def test_what_is_told(self):
        desk = self.desk("lay b ([h]a>a) rule self h a", "lay a ~F from - | ([h]a>a) by b | [h]([h]a>a) must 1 h 0")
        for text, told in (
                ("count", "2"), ("house", "h:on,self;k:-/-"), ("names", "b a"), ("saying a", "[h]([h]a>a)"),
                ("saying b", "([h]a>a)"),
                ("showing a", "~F from - | ([h]a>a) by b | [h]([h]a>a) must 1 h 0"),
                ("showing b", "([h]a>a) rule self h a"),
                ("whole a", "3"), ("whole b", "1"), ("ask ([h]a>a)", "shown"), ("ask ([k]a>a)", "against"),
                ("ask T", "shown"),
                ("ask F", "against"),
                ("log",
                FIRST + " / lay b ([h]a>a) rule self h a / lay a ~F from - | ([h]a>a) by b | [h]([h]a>a) must 1 h 0")):
            self.assertEqual(desk.say(text), told, text)
            self.assertIs(type(desk.say(text)), str)

    def test_as_the_book_refuses(self):
        desk = self.desk("lay a T from -")
        for text, error, *fields in (
                ("lay b a from -", NoPaper, "from", 0), ("lay b [x]a from -", NoPaper, "hand", 0),
                ("lay a T by a", NoPaper, "by", 0),
                ("lay b T from 0", NoPaper, "row", 0), ("drop b", NoName, "b"), ("saying b", NoName, "b"),
                ("showing b", NoName, "b"),
                ("whole b", NoName, "b"), ("hand h", NoRules, "there", "h"), ("bare j", NoHand, "j"),
                ("put j on", NoHand, "j"),
                ("put h on", NoRules, "there", "h"), ("put k round", NoRules, "round", "k"),
                ("take k on", NoRules, "none", "k"),
                ("bridge k h", NoRules, "rules", "k"), ("bridge h h", NoRules, "same", "h"),
                ("unbridge h k", NoRules, "none", "h"),
                ("ask ([x]a&[j]a)", NoHand, "j")):
            ahead = desk.say("log")
            self.check_refused(desk, text, error, *fields)
            self.assertEqual(desk.say("log"), ahead)
        self.check_refused(self.desk(), "undo", NoStep, 0)
        self.check_refused(self.desk("bare k"), "bare h", NoRules, "last", "h")

    def test_whole_of_more_than_four_hundred(self):
        desk = self.desk("lay a T from -")
        for ahead, name in zip("abcdefgh", "bcdefghi"):
            desk.say(f"lay {name} T by {ahead} | T by {ahead} | T from -")
        self.assertEqual(desk.say("whole h"), "255")
        self.check_refused(desk, "whole i", NoMore, 400)
        self.assertEqual(desk.say("saying i"), "T")

    def test_two_desks_have_nothing_in_common(self):
        one, other = self.desk(), self.desk()
        one.say("lay a T from -")
        self.assertEqual(other.say("names"), "-")
        self.assertEqual(one.say("names"), "a")

    def test_by_name(self):
        self.assertEqual(Desk().say(asking=FIRST), "ok")

    def test_rows_bent(self):
        desk = self.desk("lay a T from -", "hand j", "put j step", "bridge h k")
        seen = set()
        for text in bent_texts(760, [FIRST, *ROWS, "lay b ([h]a>a) rule self h a | T from 0", "ask ([h]a>a)"], 5000):
            stands = row_stands(text)
            seen.add(stands)
            try:
                desk.say(text)
                self.assertTrue(stands, text)
            except NoRow as refused:
                self.assertFalse(stands, text)
                self.assertEqual(refused.row, text)
            except (MustError, LackError):
                self.assertTrue(stands, text)
        self.assertEqual(seen, {False, True})

    def test_as_a_book_of_its_log(self):
        chance = random.Random(761)
        for house in let_houses(762, 40):
            desk, book, plain = Desk(), Book(house), PlainBook(house)
            self.assertEqual(desk.say("book " + house_word(house)), "ok")
            for _ in range(30):
                row = next_row(chance, plain)
                if not plain_log((("book", house), row)):
                    continue
                try:
                    plain.do(row)
                except Refused:
                    pass
                self.check_row(desk, book, row)
                if chance.random() < 0.15 and plain.rows:
                    self.assertEqual(desk.say("undo"), deed_line(book.undo()))
                    plain.rows.pop()
                    plain.now, plain.kept = plain.past.pop()
                self.check_state(desk, book)

    def check_row(self, desk, book, row):
        try:
            told = done(book, row)
        except (MustError, LackError) as refused:
            self.check_refused(desk, deed_line(row), type(refused), *vars(refused).values())
            return
        fell = ",".join(name for name, word, at in told[-2]) or "-"
        self.assertEqual(desk.say(deed_line(row)), saying_text(told[0]) + " " + fell if row[0] == "lay" else fell)

    def check_state(self, desk, book):
        self.assertEqual(desk.say("log"), str(book))
        self.assertEqual(desk.say("count"), str(len(book)))
        self.assertEqual(desk.say("house"), house_word(book.house()))
        self.assertEqual(desk.say("names"), " ".join(book.showing_names()) or "-")
        for name in book.showing_names():
            self.assertEqual(desk.say("saying " + name), saying_text(book.saying_kept(name)))
            self.assertEqual(desk.say("showing " + name), showing_text(book.showing_kept(name)))
            self.assertEqual(desk.say("whole " + name), str(len(book.whole_showing(name))))
