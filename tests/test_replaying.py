"""[79]: LOGS REPLAYED."""

import random
import unittest

from mustmays.booklogs import is_log
from mustmays.bookreadings import read_log
from mustmays.books import Book
from mustmays.booktexts import log_lines
from mustmays.errors import LackError, MustError, NoHand, NoName, NoPaper, NoRules
from mustmays.replaying import replayed
from tests.bookwords import some_deed
from tests.judges import let_houses
from tests.plainbook import PlainBook
from tests.plainly import A, F, T, house_of, must, no, so
from tests.test_books_plainly import next_row, told_or_refused

SELF = so(must("h", A), A)
LAID = ((SELF, ("rule", "self", "h", A)),)
BY = ((SELF, ("by", "one")), (must("h", SELF), ("must", 0, "h", 0)))
FIRST = ("book", house_of(("self",)))


class Replayed(unittest.TestCase):
    def check_same(self, one, other):
        """Two BOOKS tell the same."""
        self.assertIs(type(other), Book)
        self.assertTrue(one == other)
        self.assertFalse(one != other)
        self.assertEqual(one.log(), other.log())
        self.assertEqual(str(one), str(other))
        self.assertEqual(len(one), len(other))
        self.assertEqual(one.house(), other.house())
        self.assertEqual(one.showing_names(), other.showing_names())
        self.assertEqual(one.library(), other.library())
        self.assertEqual([one.elder(k) for k in range(len(one) + 1)], [other.elder(k) for k in range(len(one) + 1)])
        for name in one.showing_names():
            self.assertEqual(one.showing_kept(name), other.showing_kept(name))
            self.assertEqual(one.saying_kept(name), other.saying_kept(name))
            self.assertEqual(one.whole_showing(name, most=10 ** 6), other.whole_showing(name, most=10 ** 6))
        self.assertEqual((one.walks(), other.walks()), (0, 0))

    def refuse(self, log, error, **fields):
        self.assertIs(is_log(log), True)
        with self.assertRaises(error) as caught:
            replayed(log)
        self.assertIs(type(caught.exception), error)
        self.assertEqual(vars(caught.exception), fields)

    def test_no_deed(self):
        book = replayed((FIRST,))
        self.check_same(Book(FIRST[1]), book)
        self.assertEqual((book.house(), len(book), book.showing_names()), (FIRST[1], 0, ()))

    def test_each_deed(self):
        log = (
            FIRST, ("lay", "one", LAID), ("lay", "two", BY), ("hand", "k"), ("put", "k", "step"),
            ("bridge", "h", "k"), ("unbridge", "h", "k"), ("take", "h", "self"), ("bare", "k"), ("put", "h", "self"),
            ("lay", "one", LAID), ("drop", "one"))
        book = replayed(log)
        self.assertEqual(book.log(), log)
        self.assertEqual(book.showing_names(), ())
        self.assertEqual(replayed(log[:-1]).showing_names(), ("one",))
        for many in range(1, len(log) + 1):
            self.assertEqual(replayed(log[:many]).log(), log[:many])

    def test_who_fell_has_fallen(self):
        book = replayed((FIRST, ("lay", "one", LAID), ("lay", "two", BY), ("take", "h", "self")))
        self.assertEqual(book.showing_names(), ())
        self.assertEqual(book.undo(), ("take", "h", "self"))
        self.assertEqual(book.showing_names(), ("one", "two"))

    def test_a_row_amid_that_is_refused(self):
        ahead = (FIRST, ("lay", "one", LAID))
        behind = (("hand", "k"), ("drop", "zz"))
        for row, error, fields in (
                (("drop", "two"), NoName, {"name": "two"}),
                (("lay", "two", ((A, ("from", ())),)), NoPaper, {"word": "from", "at": 0}),
                (("lay", "two", ((SELF, ("by", "two")),)), NoPaper, {"word": "by", "at": 0}),
                (("lay", "two", ((T, ("from", (5,))),)), NoPaper, {"word": "row", "at": 0}),
                (("hand", "h"), NoRules, {"word": "there", "hand": "h"}),
                (("bare", "h"), NoRules, {"word": "last", "hand": "h"}), (("bare", "x"), NoHand, {"hand": "x"}),
                (("put", "h", "self"), NoRules, {"word": "there", "hand": "h"}),
                (("put", "h", "round"), NoRules, {"word": "round", "hand": "h"}),
                (("put", "x", "on"), NoHand, {"hand": "x"}),
                (("take", "h", "on"), NoRules, {"word": "none", "hand": "h"}),
                (("take", "x", "on"), NoHand, {"hand": "x"}),
                (("bridge", "h", "h"), NoRules, {"word": "same", "hand": "h"}),
                (("bridge", "x", "h"), NoRules, {"word": "lacks", "hand": "x"}),
                (("unbridge", "h", "k"), NoRules, {"word": "none", "hand": "h"})):
            self.refuse((*ahead, row), error, **fields)
            # The first refusal, not one of a row behind it.
            self.refuse((*ahead, row, *behind), error, **fields)
        self.refuse((*ahead, *behind), NoName, name="zz")

    def test_logs_of_books(self):
        chance = random.Random(1000)
        for house in let_houses(1001, 40):
            book, plain = Book(house), PlainBook(house)
            for _ in range(30):
                row = next_row(chance, plain)
                if told_or_refused(plain.do, row)[0] != "refused":
                    book.do_all([row])
                elif chance.random() < 0.2 and plain.rows:
                    book.undo()
                    plain.rows.pop()
                    plain.now, plain.kept = plain.past.pop()
            other = replayed(book.log())
            self.check_same(book, other)
            self.assertEqual([other.undo() for _ in plain.rows], plain.rows[::-1])
            self.check_same(replayed(read_log(log_lines(book.log()))), book)

    def test_any_log_is_done_or_refused(self):
        chance = random.Random(1002)
        words = set()
        for house in let_houses(1003, 150):
            log = (("book", house), *[some_deed(chance) for _ in range(chance.choice((1, 2, 3)))])
            self.assertIs(is_log(log), True)
            plain, wanted = PlainBook(house), None
            for row in log[1:]:
                found = told_or_refused(plain.do, row)
                if found[0] == "refused":
                    wanted = found
                    break
            try:
                self.assertEqual(replayed(log).log(), log)
                found = None
            except (MustError, LackError) as refused:
                found = ("refused", type(refused).__name__) + tuple(vars(refused).values())
            self.assertEqual(found, wanted)
            words.add(found and found[1])
        self.assertLessEqual({None, "NoHand", "NoName", "NoRules", "NoPaper"}, words)

    def test_a_new_book(self):
        book = Book(FIRST[1])
        book.lay("one", LAID)
        other = replayed(book.log())
        other.drop("one")
        self.assertEqual((len(book), book.showing_names()), (1, ("one",)))
        self.assertEqual((len(other), other.showing_names()), (2, ()))
        self.assertNotEqual(book, other)
        log = book.log()
        book.undo()
        self.assertEqual(len(replayed(log)), 1)

    def test_by_name(self):
        self.assertEqual(replayed(log=(FIRST,)), Book(FIRST[1]))
        self.assertEqual(replayed(log=(FIRST, ("lay", "f", ((no(F), ("from", ())),)))).saying_kept("f"), no(F))
