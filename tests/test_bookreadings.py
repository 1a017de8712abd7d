"""[83], [84]: texts read as HOUSES, SHOWINGS, deeds and LOGS."""

import itertools
import random
import unittest

from mustmays.bookreadings import read_deed, read_house, read_log, read_showing
from mustmays.booktexts import deed_line, house_word, log_lines, showing_text
from mustmays.errors import NoText
from tests.bookwords import bent_texts, deed_word, log_refusal, showing_word, some_deed, some_showing, straight_word
from tests.judges import let_houses
from tests.plainly import A, B, T, houses_of_two, must, so
from tests.test_booktexts import HOUSE, SHOWING, WRITTEN


class Read(unittest.TestCase):
    def check_refused(self, reading, text, line, word):
        with self.assertRaises(NoText) as caught:
            reading(text)
        self.assertEqual((caught.exception.line, caught.exception.word), (line, word), text)

    def check(self, reading, writing, text, wanted):
        """wanted is the word of the refusal, or None."""
        if wanted is None:
            self.assertEqual(writing(reading(text)), text)
        else:
            self.check_refused(reading, text, 0, wanted)


class Houses(Read):
    def test_each(self):
        self.assertEqual(read_house("h:-/-"), ((("h", ()),), ()))
        self.assertEqual(read_house("h:on;k:on/h>k"), HOUSE)
        self.assertEqual(read_house("h:on,self;k:-/-"), ((("h", ("on", "self")), ("k", ())), ()))

    def test_let_or_not(self):
        for text in ("h:-;k:on/h>k", "h:ends,on;k:-/h>k", "h:-;k:-/h>k;k>h"):
            self.assertEqual(house_word(read_house(text)), text)

    def test_no_houses(self):
        for text in (
                "", "-", "/", "h", "h:", "h:-", "h:-/", "/-", ":-/-", "h:/-", "h/-", "h:-/-/-", "h:-:-/-", "H:-/-",
                "abcdefghi:-/-", "h:-;/-", ";h:-/-", "h:-;h:-/-", "k:-;h:-/-", "h:on,/-", "h:,on/-", "h:on,on/-",
                "h:self,on/-", "h:-,on/-", "h:no/-", "h:round/-", "h:ends/-", "h:ends,on,step/-", "h:-/h>h", "h:-/h>k",
                "h:-;k:-/h", "h:-;k:-/h>k>h", "h:-;k:-/h>k;", "h:-;k:-/h>k;h>k", "h:-;k:-/k>h;h>k", "h:-;k:-/-;h>k",
                "h:-;k:-/>k", "h:-;k:-/h>", "h;-/-", "h:--/-", "h:-/--", "h:on;on/-", "h:-/h,k", "h:-,/-", "h:ON/-"):
            self.check_refused(read_house, text, 0, 0)

    def test_words_more(self):
        self.check_refused(read_house, "h:-/- ", 0, 1)
        self.check_refused(read_house, " h:-/-", 0, 0)
        self.check_refused(read_house, "h:-/- h:-/-", 0, 1)
        self.check_refused(read_house, "h: -/-", 0, 0)
        self.check_refused(read_house, "book h:-/-", 0, 0)

    def test_many(self):
        houses = let_houses(730, 60) + list(houses_of_two())[::5]
        for house in houses:
            self.assertEqual(read_house(house_word(house)), house)
        for text in bent_texts(731, [house_word(house) for house in houses], 3000):
            self.check(read_house, house_word, text, straight_word(["HOUSE"], text.split(" ")))


class Showings(Read):
    def test_each(self):
        self.assertEqual(read_showing(WRITTEN), SHOWING)
        self.assertEqual(read_showing("T from -"), ((T, ("from", ())),))
        self.assertEqual(read_showing("a rule none h b"), ((A, ("rule", "none", "h", B)),))
        self.assertEqual(read_showing("a from 3,0,0"), ((A, ("from", (3, 0, 0))),))
        self.assertEqual(read_showing("a bridge h h b"), ((A, ("bridge", "h", "h", B)),))
        self.assertEqual(read_showing("by by by | from from -"), (
            (("letter", "by"), ("by", "by")), (("letter", "from"), ("from", ()))))

    def test_words_that_cannot_stand(self):
        for text, word in (
                ("", 0), (" ", 0), ("a", 1), ("a ", 1), ("A from -", 0), ("{a}b from -", 0), ("~{a}b from -", 0),
                ("(a from -", 0),
                ("a From -", 1), ("a on h b", 1), ("a  from -", 1), ("a |", 1), ("a from", 2), ("a from ", 2),
                ("a from -,0", 2),
                ("a from 0,", 2), ("a from ,0", 2), ("a from 0,-", 2), ("a from 00", 2), ("a from 01", 2),
                ("a from 0,01", 2),
                ("a from +1", 2), ("a from -1", 2), ("a from 1 2", 3), ("a from --", 2), ("a from - -", 3),
                ("a from a", 2),
                ("a from 1_0", 2), ("a must", 2), ("a must 0", 3), ("a must 0 h", 4), ("a must 0 h 0 0", 5),
                ("a must 00 h 0", 2),
                ("a must 0 H 0", 3), ("a must 0 0 0", 3), ("a must 0 h -", 4), ("a must - h 0", 2),
                ("a must 0 h 01", 4),
                ("a must 0,1 h 0", 2), ("a rule", 2), ("a rule On", 2), ("a rule on", 3), ("a rule on 1", 3),
                ("a rule on h", 4),
                ("a rule on h {a}b", 4), ("a rule on h a a", 5), ("a rule - h a", 2), ("a rule abcdefghi h a", 2),
                ("a bridge", 2), ("a bridge h", 3), ("a bridge h k", 4), ("a bridge h k (a)", 4),
                ("a bridge h k a |", 6),
                ("a by", 2), ("a by A", 2), ("a by abcdefghi", 2), ("a by b c", 3), ("a by b |", 4), ("a by b | ", 4),
                ("a by b | c", 5), ("a by b || c by d", 3), ("a by b | c by", 6), ("a by b  | c by d", 3),
                ("| a by b", 0),
                ("a by b | | c by d", 4), ("a by b c by d", 3), ("a by b & c by d", 3), ("a by b |  c by d", 4)):
            self.check_refused(read_showing, text, 0, word)
            self.assertEqual(showing_word(text.split(" ")), word, text)

    def test_sixty_figures(self):
        most = "9" * 60
        self.assertEqual(read_showing(f"a from {most},0"), ((A, ("from", (10 ** 60 - 1, 0))),))
        self.assertEqual(read_showing(f"a must {most} h {most}"), ((A, ("must", 10 ** 60 - 1, "h", 10 ** 60 - 1)),))
        self.check_refused(read_showing, f"a from {most}9", 0, 2)
        self.check_refused(read_showing, f"a from 0,{most}9", 0, 2)
        self.check_refused(read_showing, f"a must {most}9 h 0", 0, 2)
        self.check_refused(read_showing, f"a must 0 h {most}9", 0, 4)

    def test_many(self):
        chance = random.Random(732)
        texts = []
        for _ in range(200):
            showing = some_showing(chance)
            texts.append(showing_text(showing))
            self.assertEqual(read_showing(texts[-1]), showing)
        for text in bent_texts(733, texts, 4000):
            self.check(read_showing, showing_text, text, showing_word(text.split(" ")))


class Deeds(Read):
    def test_each(self):
        for text, deed in (
                ("lay a T from -", ("lay", "a", ((T, ("from", ())),))), ("drop a", ("drop", "a")),
                ("hand h", ("hand", "h")),
                ("bare h", ("bare", "h")), ("put h on", ("put", "h", "on")), ("take h ends", ("take", "h", "ends")),
                ("bridge h k", ("bridge", "h", "k")), ("unbridge h h", ("unbridge", "h", "h")),
                ("drop drop", ("drop", "drop"))):
            self.assertEqual(read_deed(text), deed)

    def test_words_that_cannot_stand(self):
        for text, word in (
                ("", 0), (" drop a", 0), ("Drop a", 0), ("book h:-/-", 0), ("undo", 0), ("count", 0), ("T from -", 0),
                ("drop", 1),
                ("drop ", 1), ("drop A", 1), ("drop a b", 2), ("drop a ", 2), ("drop  a", 1), ("hand", 1),
                ("hand h on", 2),
                ("bare 0", 1), ("put h", 2), ("put on", 2), ("put h must", 2), ("put h On", 2), ("put h h", 2),
                ("put h on on", 3),
                ("put H on", 1), ("take h", 2), ("take h -", 2), ("bridge h", 2), ("bridge h K", 2),
                ("bridge h k j", 3),
                ("bridge h>k", 1), ("unbridge", 1), ("unbridge h k ", 3), ("lay", 1), ("lay A T from -", 1),
                ("lay a", 2),
                ("lay a T", 3), ("lay a T from", 4), ("lay a T from 01", 4), ("lay a {a}b from -", 2),
                ("lay a T from - |", 6),
                ("lay a  T from -", 2), ("lay a T from - b", 5)):
            self.check_refused(read_deed, text, 0, word)
            self.assertEqual(deed_word(text.split(" ")), word, text)

    def test_many(self):
        chance = random.Random(734)
        texts = []
        for _ in range(300):
            deed = some_deed(chance)
            texts.append(deed_line(deed))
            self.assertEqual(read_deed(texts[-1]), deed)
        for text in bent_texts(735, texts, 4000):
            self.check(read_deed, deed_line, text, deed_word(text.split(" ")))


class Logs(Read):
    def test_each(self):
        self.assertEqual(read_log(["book h:-/-"]), (("book", ((("h", ()),), ())),))
        self.assertEqual(read_log(["book h:on;k:on/h>k", "drop a", "put h self"]), (
            ("book", HOUSE), ("drop", "a"), ("put", "h", "self")))

    def test_no_lines(self):
        self.check_refused(read_log, [], 0, 0)

    def test_the_first_line(self):
        for text, word in (
                ("", 0), ("book", 1), ("book ", 1), ("Book h:-/-", 0), ("drop a", 0), ("book h", 1), ("book h:-", 1),
                ("book h:-/- x", 2), ("book h:-/- ", 2), ("book  h:-/-", 1), (" book h:-/-", 0), ("h:-/-", 0),
                # HOUSES that aren't LET.
                ("book h:-;k:on/h>k", 1), ("book h:ends,on;k:-/h>k", 1), ("book h:-;k:-/h>k;k>h", 1),
                ("book h:-;k:-/h>k;k>h x", 1)):
            self.check_refused(read_log, [text], 0, word)
            self.check_refused(read_log, [text, "none"], 0, word)

    def test_later_lines(self):
        first = "book h:-/-"
        for text, word in (("book h:-/-", 0), ("", 0), ("drop", 1), ("drop a b", 2), ("lay a T from 01", 4),
            ("undo", 0)):
            self.check_refused(read_log, [first, text], 1, word)
            self.check_refused(read_log, [first, "drop a", text, "none"], 2, word)

    def test_many(self):
        chance = random.Random(736)
        for house in let_houses(737, 60):
            log = (("book", house), *[some_deed(chance) for _ in range(chance.choice((0, 1, 3)))])
            lines = log_lines(log)
            self.assertEqual(read_log(lines), log)
            for k, text in itertools.product(range(len(lines)), range(12)):
                bent = lines[:k] + bent_texts(738 + text, [lines[k]], 1) + lines[k + 1:]
                wanted = log_refusal(bent)
                if wanted is None:
                    self.assertEqual(log_lines(read_log(bent)), bent)
                else:
                    self.check_refused(read_log, bent, *wanted)

    def test_what_is_handed_in_stays(self):
        lines = ["book h:-/-", "drop a"]
        self.assertEqual(read_log(lines), read_log(lines))
        self.assertEqual(lines, ["book h:-/-", "drop a"])
        self.assertIs(type(read_log(lines)), tuple)

    def test_by_name(self):
        self.assertEqual(read_house(text="h:-/-"), ((("h", ()),), ()))
        self.assertEqual(read_showing(text="([h]a>b) by c"), ((so(must("h", A), B), ("by", "c")),))
        self.assertEqual(read_deed(text="drop a"), ("drop", "a"))
        self.assertEqual(read_log(lines=["book h:-/-"]), (("book", ((("h", ()),), ())),))
