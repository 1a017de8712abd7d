"""[80], [81], [82]: HOUSES, SHOWINGS, deeds and LOGS as texts."""

import random
import unittest

from mustmays.booktexts import deed_line, house_word, log_lines, showing_text
from tests.bookwords import house_text, line_of, rows_text, some_deed, some_showing
from tests.judges import let_houses
from tests.plainly import A, B, T, houses_of_two, may, must, no, so

HOUSE = ((("h", ("on",)), ("k", ("on",))), (("h", "k"),))
SHOWING = (
    (T, ("from", ())), (so(must("h", A), must("k", A)), ("bridge", "h", "k", A)), (no(no(T)), ("from", (0,))),
    (T, ("from", (0, 2, 10))), (must("h", T), ("must", 0, "h", 0)), (A, ("must", 3, "h", 2)),
    (A, ("rule", "self", "h", may("k", no(B)))), (B, ("by", "name")))
WRITTEN = (
    "T from - | ([h]a>[k]a) bridge h k a | ~~T from 0 | T from 0,2,10 | [h]T must 0 h 0 | a must 3 h 2 | "
    "a rule self h <k>~b | b by name")


class HouseWords(unittest.TestCase):
    def test_each(self):
        for house, word in (
                (((("h", ()),), ()), "h:-/-"),
                (((("h", ("on", "self")), ("k", ())), ()), "h:on,self;k:-/-"),
                (HOUSE, "h:on;k:on/h>k"),
                (((("abcdefgh", ("back", "on", "round", "self", "step")),), ()), "abcdefgh:back,on,round,self,step/-"),
                (((("h", ()), ("j", ("step",)), ("k", ())), (("h", "j"), ("h", "k"), ("j", "k"))),
                 "h:-;j:step;k:-/h>j;h>k;j>k"),
                # HOUSES that aren't LET are written, too.
                (((("h", ()), ("k", ("ends", "on"))), (("h", "k"), ("k", "h"))), "h:-;k:ends,on/h>k;k>h")):
            self.assertEqual(house_word(house), word)

    def test_many(self):
        for house in let_houses(720, 100) + list(houses_of_two()):
            self.assertEqual(house_word(house), house_text(house))


class ShowingTexts(unittest.TestCase):
    def test_each(self):
        self.assertEqual(showing_text(SHOWING), WRITTEN)
        for k, text in enumerate(WRITTEN.split(" | ")):
            self.assertEqual(showing_text(SHOWING[k:k + 1]), text)

    def test_large_numbers(self):
        self.assertEqual(showing_text(((A, ("from", (10 ** 59, 0))),)), "a from 1" + "0" * 59 + ",0")
        self.assertEqual(showing_text(((A, ("must", 10 ** 59, "h", 10 ** 59)),)), f"a must {10 ** 59} h {10 ** 59}")

    def test_many(self):
        chance = random.Random(721)
        for _ in range(400):
            showing = some_showing(chance)
            self.assertEqual(showing_text(showing), rows_text(showing))


class LogLines(unittest.TestCase):
    DEEDS = (
        (("lay", "a", ((T, ("from", ())),)), "lay a T from -"), (("lay", "name", SHOWING), "lay name " + WRITTEN),
        (("drop", "a"), "drop a"), (("hand", "h"), "hand h"), (("bare", "h"), "bare h"),
        (("put", "h", "on"), "put h on"),
        (("take", "h", "on"), "take h on"), (("bridge", "h", "k"), "bridge h k"),
        (("unbridge", "h", "k"), "unbridge h k"), (("bridge", "h", "h"), "bridge h h"))

    def test_deeds(self):
        for deed, line in self.DEEDS:
            self.assertEqual(deed_line(deed), line)

    def test_logs(self):
        self.assertEqual(log_lines((("book", HOUSE),)), ["book h:on;k:on/h>k"])
        log = (("book", HOUSE), *[deed for deed, line in self.DEEDS])
        self.assertEqual(log_lines(log), ["book h:on;k:on/h>k"] + [line for deed, line in self.DEEDS])
        self.assertIs(type(log_lines(log)), list)

    def test_many(self):
        chance = random.Random(722)
        for house in let_houses(723, 80):
            log = (("book", house), *[some_deed(chance) for _ in range(6)])
            self.assertEqual(log_lines(log), [line_of(row) for row in log])
            self.assertEqual(deed_line(log[1]), line_of(log[1]))

    def test_the_list_is_the_askers_own(self):
        log = (("book", HOUSE), ("drop", "a"))
        log_lines(log).append("more")
        self.assertEqual(log_lines(log), ["book h:on;k:on/h>k", "drop a"])

    def test_by_name(self):
        self.assertEqual(house_word(house=HOUSE), "h:on;k:on/h>k")
        self.assertEqual(showing_text(showing=SHOWING), WRITTEN)
        self.assertEqual(deed_line(deed=("drop", "a")), "drop a")
        self.assertEqual(log_lines(log=(("book", HOUSE),)), ["book h:on;k:on/h>k"])
