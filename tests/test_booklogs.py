"""[79]: of any thing, whether it is a LOG, by kind alone."""

import random
import unittest

from mustmays.booklogs import is_log
from mustmays.books import Book
from tests.bookwords import some_deed
from tests.judges import (
    any_draft, bent_ones, draft_refusal, is_number, is_plain, is_why, is_word, let_houses, tuples_of)
from tests.plainly import A, B, T, told

WORDS = ("back", "ends", "on", "round", "self", "step")
FIRST = ("book", ((("h", ()),), ()))
SHOWING = ((T, ("from", ())),)


def plain_showing(x):
    """A SHOWING by kind, its NUMBERS from 0 on, words WORDS."""
    if not tuples_of(x, 2) or x == () or not all(is_plain(s) and is_why(why) for s, why in x):
        return False
    for s, (word, *rest) in x:
        numbers = rest[0] if word == "from" else [y for y in rest if is_number(y)]
        if any(n < 0 for n in numbers if is_number(n)) or (word == "rule" and not is_word(rest[0])):
            return False
    return True


def plain_log(x):
    """[79], word by word."""
    if type(x) is not tuple or x == () or not all(type(row) is tuple and row != () for row in x):
        return False
    if len(x[0]) != 2 or x[0][0] != "book" or not any_draft(x[0][1]) or draft_refusal(x[0][1]) is not None:
        return False

    def is_let_word(y):
        return type(y) is str and y in WORDS
    kinds = {
        "lay": (is_word, plain_showing), "drop": (is_word,), "hand": (is_word,), "bare": (is_word,),
        "put": (is_word, is_let_word), "take": (is_word, is_let_word), "bridge": (is_word, is_word),
        "unbridge": (is_word, is_word)}
    for word, *rest in x[1:]:
        if type(word) is not str or word not in kinds or len(rest) != len(kinds[word]):
            return False
        if not all(kind(y) for kind, y in zip(kinds[word], rest)):
            return False
    return True


class IsLog(unittest.TestCase):
    def check(self, thing, wanted):
        self.assertIs(is_log(thing), wanted, thing)
        self.assertIs(plain_log(thing), wanted, thing)

    def test_logs(self):
        for rows in (
                (), (("lay", "a", SHOWING),), (("lay", "abcdefgh", ((A, ("from", (5, 5, 0))), (B, ("by", "b")))),),
                (("lay", "a", ((A, ("rule", "none", "x", B)),)),), (("lay", "a", ((A, ("must", 0, "x", 10 ** 59)),)),),
                (("drop", "a"),), (("hand", "h"), ("hand", "h")), (("bare", "x"),), (("put", "h", "ends"),),
                (("take", "x", "on"),), (("bridge", "h", "h"),), (("bridge", "x", "y"), ("unbridge", "y", "y"))):
            self.check((FIRST, *rows), True)

    def test_first_rows(self):
        for thing in (
                None, 1, "", (), [], FIRST, [FIRST], ((),), (["book", FIRST[1]],), (("book",),), (("book", None),),
                (("Book", FIRST[1]),), (("book", FIRST[1], ()),), (("drop", "a"),), ((FIRST[1], "book"),),
                (("book", ((), ())),), (("book", ((("h", ("round",)),), ())),),
                (("book", ((("h", ()), ("k", ("on",))), (("h", "k"),))),),
                (("book", ((("h", ()), ("k", ())), (("h", "k"), ("k", "h")))),),
                (("book", ((("h", ()),), (("h", "h"),))),),
                (("drop", "a"), FIRST)):
            self.check(thing, False)

    def test_rows(self):
        for row in (
                None, "drop", (), ["drop", "a"], ("drop",), ("drop", "A"), ("drop", 1), ("drop", "a", "b"), ("undo",),
                ("undo", "a"), FIRST, ("hand",), ("hand", ""), ("hand", "h", "k"), ("bare", None), ("put", "h"),
                ("put", "h", "no"), ("put", "h", ""), ("put", "H", "on"), ("put", "h", ("on",)), ("put", "h", ["on"]),
                ("put", "h", None), ("put", "h", "on", "on"), ("take", "h", "h"), ("bridge", "h"), ("bridge", "h", "K"),
                ("bridge", "h", 1), ("bridge", "h", "k", "j"), ("unbridge", "", "h"), ("lay", "a"),
                ("lay", "A", SHOWING),
                ("lay", "a", ()), ("lay", "a", list(SHOWING)), ("lay", "a", SHOWING, 1), ("lay", "a", None),
                ("lay", "a", ((told(A, B), ("from", ())),)), ("lay", "a", ((A, ("from", (-1,))),)),
                ("lay", "a", ((A, ("from", (True,))),)), ("lay", "a", ((A, ("must", -1, "h", 0)),)),
                ("lay", "a", ((A, ("must", 0, "h", -1)),)), ("lay", "a", ((A, ("must", 0, "h", False)),)),
                ("lay", "a", ((A, ("rule", "", "h", A)),)), ("lay", "a", ((A, ("rule", "No word", "h", A)),)),
                ("lay", "a", ((A, ("rule", "abcdefghi", "h", A)),)), ("lay", "a", ((A, ("by", "")),)), (1, "a"),
                (True, "a", "b")):
            self.check((FIRST, row), False)
            self.check((FIRST, ("drop", "a"), row, ("drop", "a")), False)

    def test_bent_ones(self):
        chance = random.Random(740)
        logs = [(("book", house), *[some_deed(chance) for _ in range(4)]) for house in let_houses(741, 80)]
        for log in logs:
            self.check(log, True)
        found = []
        for thing in bent_ones(742, logs, 4000):
            found.append(plain_log(thing))
            self.check(thing, found[-1])
        self.assertTrue(200 < sum(found) < 3800, sum(found))

    def test_of_a_book(self):
        book = Book(FIRST[1])
        self.check(book.log(), True)
        book.lay("a", SHOWING)
        book.add_hand("k")
        book.bridge("h", "k")
        book.drop("a")
        self.check(book.log(), True)

    def test_by_name(self):
        self.assertIs(is_log(thing=(FIRST,)), True)
