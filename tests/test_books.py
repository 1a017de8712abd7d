"""[72] to [78], [87], [88]: a BOOK, its deeds one by one."""

import unittest

from mustmays.answerjudge import lets_answered
from mustmays.books import Book
from mustmays.errors import NoHand, NoMore, NoName, NoPaper, NoRules, NoStep
from mustmays.showjudge import lets_showing
from tests.plainly import A, B, C, F, T, both, either, house_of, may, must, no, so

TWO = ((("h", ("on", "self")), ("k", ())), ())
TAUT = either(A, no(A))
SELF = ((so(must("h", A), A), ("rule", "self", "h", A)),)
ON = ((so(must("h", A), must("h", must("h", A))), ("rule", "on", "h", A)),)
LONE = ((TAUT, ("from", ())),)
BY_SELF = ((SELF[0][0], ("by", "self")), (so(must("h", A), either(A, B)), ("from", (0,))))
BY_BY = ((BY_SELF[-1][0], ("by", "bys")), (must("h", BY_SELF[-1][0]), ("must", 0, "h", 0)))
STEP_P = ((no(must("h", F)), ("rule", "step", "h", must("j", A))),)


def state(book):
    """All that a BOOK tells."""
    return (
        book.house(), book.showing_names(), [book.showing_kept(name) for name in book.showing_names()],
        [book.saying_kept(name) for name in book.showing_names()], book.library(), book.log(), len(book), str(book),
        [book.elder(k) for k in range(len(book) + 1)], book.walks())


class Books(unittest.TestCase):
    def check_refused(self, book, error, fields, deed, *arguments, **more):
        """It is refused, and all is as it was."""
        ahead = state(book)
        with self.assertRaises(error) as caught:
            deed(*arguments, **more)
        found = tuple(vars(caught.exception).values())
        self.assertEqual(found, fields)
        self.assertEqual(state(book), ahead)

    def three_deep(self):
        book = Book(TWO)
        book.lay("self", SELF)
        book.lay("bys", BY_SELF)
        book.lay("lone", LONE)
        book.lay("deep", BY_BY)
        return book


class Laid(Books):
    def test_made(self):
        book = Book(TWO)
        self.assertEqual(state(book), (
            TWO, (), [], [], (), (("book", TWO),), 0, "book h:on,self;k:-/-", [TWO], 0))
        self.assertEqual(Book(house=TWO).house(), TWO)

    def test_lay(self):
        book = Book(TWO)
        self.assertEqual(book.lay("self", SELF), (SELF[0][0], (), 0))
        self.assertEqual(book.lay("lone", LONE), (TAUT, (), 0))
        self.assertEqual(book.lay("bys", BY_SELF), (BY_SELF[-1][0], (), 0))
        self.assertEqual(book.showing_names(), ("self", "lone", "bys"))
        self.assertEqual(book.showing_kept("bys"), BY_SELF)
        self.assertEqual(book.saying_kept("bys"), BY_SELF[-1][0])
        self.assertEqual(book.library(), (("bys", BY_SELF[-1][0]), ("lone", TAUT), ("self", SELF[0][0])))
        self.assertEqual(book.log(), (
            ("book", TWO), ("lay", "self", SELF), ("lay", "lone", LONE), ("lay", "bys", BY_SELF)))
        self.assertEqual(book.house(), TWO)

    def test_lay_refused(self):
        book = self.three_deep()
        for thing, word, at in (
                (None, "shape", -1), ((), "shape", -1), (list(LONE), "shape", -1), (((A, ("from", ())),), "from", 0),
                (((must("x", A), ("from", ())),), "hand", 0), (((A, ("by", "self")),), "by", 0),
                (((A, ("by", "none")),), "by", 0), (LONE + ((A, ("from", (1,))),), "row", 1),
                (((T, ("from", ())), (A, ("rule", "back", "h", A))), "rule", 1)):
            self.check_refused(book, NoPaper, (word, at), book.lay, "more", thing)
            self.check_refused(book, NoPaper, (word, at), book.lay, "lone", thing)

    def test_lay_anew_alone(self):
        book = Book(TWO)
        book.lay("a", LONE)
        book.lay("b", SELF)
        self.assertEqual(book.lay("a", ON), (ON[0][0], (), 0))
        self.assertEqual(book.showing_names(), ("b", "a"))
        self.assertEqual(book.showing_kept("a"), ON)
        self.assertEqual(book.log()[1:], (("lay", "a", LONE), ("lay", "b", SELF), ("lay", "a", ON)))

    def test_lay_anew_where_others_hang_on_it(self):
        book = self.three_deep()
        self.assertEqual(book.lay("self", SELF), (SELF[0][0], (("bys", "by", 0), ("deep", "by", 0)), 2))
        self.assertEqual(book.showing_names(), ("lone", "self"))
        book = self.three_deep()
        self.assertEqual(book.lay("bys", LONE), (TAUT, (("deep", "by", 0),), 1))
        self.assertEqual(book.showing_names(), ("self", "lone", "bys"))

    def test_lay_anew_refused(self):
        book = self.three_deep()
        self.check_refused(book, NoPaper, ("shape", -1), book.lay, "self", ())
        # Not by its own name, nor by those that hang on it: they are gone when it is judged.
        self.check_refused(book, NoPaper, ("by", 0), book.lay, "self", ((SELF[0][0], ("by", "self")),))
        self.check_refused(book, NoPaper, ("by", 0), book.lay, "self", BY_BY)
        self.assertEqual(book.undo(), ("lay", "deep", BY_BY))

    def test_lay_by_one_that_stands(self):
        book = self.three_deep()
        self.assertEqual(book.lay("deep", ((TAUT, ("by", "lone")),)), (TAUT, (), 0))

    def test_drop(self):
        book = self.three_deep()
        self.assertEqual(book.drop("lone"), ((), 0))
        self.assertEqual(book.showing_names(), ("self", "bys", "deep"))
        self.assertEqual(book.drop("self"), ((("bys", "by", 0), ("deep", "by", 0)), 2))
        self.assertEqual(book.showing_names(), ())
        self.assertEqual(book.log()[-2:], (("drop", "lone"), ("drop", "self")))

    def test_drop_several_deep(self):
        book = self.three_deep()
        self.assertEqual(book.drop("bys"), ((("deep", "by", 0),), 1))
        self.assertEqual(book.showing_names(), ("self", "lone"))
        book = Book(TWO)
        book.lay("a", LONE)
        for ahead, name in zip("abcdef", "bcdefg"):
            book.lay(name, ((T, ("from", ())), (TAUT, ("by", ahead))))
        book.lay("z", LONE)
        self.assertEqual(book.drop("b"), (tuple((name, "by", 1) for name in "cdefg"), 5))
        self.assertEqual(book.showing_names(), ("a", "z"))

    def test_drop_no_name(self):
        book = self.three_deep()
        for name in ("x", "lay", "h"):
            self.check_refused(book, NoName, (name,), book.drop, name)
        book.drop("lone")
        self.check_refused(book, NoName, ("lone",), book.drop, "lone")

    def test_what_is_kept_is_told(self):
        book = self.three_deep()
        self.check_refused(book, NoName, ("x",), book.showing_kept, "x")
        self.check_refused(book, NoName, ("x",), book.saying_kept, "x")
        self.assertEqual(book.showing_kept(name="deep"), BY_BY)
        self.assertEqual(book.saying_kept(name="deep"), BY_BY[-1][0])


class Turned(Books):
    def test_hands_come(self):
        book = Book(house_of(()))
        book.lay("h", ((so(must("h", A), must("h", A)), ("from", ())),))
        self.assertEqual(book.add_hand("g"), ((), 0))
        self.assertEqual(book.house(), ((("g", ()), ("h", ())), ()))
        self.assertEqual(book.add_hand("k"), ((), 0))
        self.assertEqual(book.house(), ((("g", ()), ("h", ()), ("k", ())), ()))
        self.check_refused(book, NoRules, ("there", "h"), book.add_hand, "h")
        self.check_refused(book, NoRules, ("there", "g"), book.add_hand, "g")
        self.assertEqual(book.log()[2:], (("hand", "g"), ("hand", "k")))

    def test_a_hand_comes_that_a_why_has(self):
        book = Book(((("h", ("step",)),), ()))
        book.lay("s", STEP_P)
        book.lay("a", LONE)
        self.assertEqual(book.add_hand("k"), ((), 0))
        self.assertEqual(book.add_hand("j"), ((), 1))
        self.assertEqual(book.bare("k"), ((), 0))
        self.assertEqual(book.bare("j"), ((), 1))
        self.assertEqual(book.showing_names(), ("s", "a"))

    def test_hands_go(self):
        book = Book(((("h", ("self",)), ("j", ()), ("k", ())), (("h", "j"), ("h", "k"), ("j", "k"))))
        book.lay("a", SELF)
        book.lay("k", ((so(must("k", A), must("k", A)), ("from", ())),))
        book.lay("jk", ((so(must("j", A), must("k", A)), ("bridge", "j", "k", A)),))
        book.lay("hk", ((so(must("h", A), must("k", A)), ("bridge", "h", "k", A)),))
        self.assertEqual(book.bare("j"), ((("jk", "hand", 0),), 1))
        self.assertEqual(book.house(), ((("h", ("self",)), ("k", ())), (("h", "k"),)))
        self.assertEqual(book.bare("k"), ((("k", "hand", 0), ("hk", "hand", 0)), 2))
        self.assertEqual(book.house(), ((("h", ("self",)),), ()))
        self.assertEqual(book.showing_names(), ("a",))
        self.check_refused(book, NoRules, ("last", "h"), book.bare, "h")
        self.check_refused(book, NoHand, ("k",), book.bare, "k")
        self.assertEqual(book.log()[-2:], (("bare", "j"), ("bare", "k")))

    def test_each_rule_put(self):
        book = Book(house_of(()))
        for word, rules in (
                ("step", ("step",)), ("on", ("on", "step")), ("back", ("back", "on", "step")),
                ("self", ("back", "on", "self", "step")), ("round", ("back", "on", "round", "self", "step"))):
            self.assertEqual(book.put("h", word), ((), 0))
            self.assertEqual(book.house(), house_of(rules))
            self.check_refused(book, NoRules, ("there", "h"), book.put, "h", word)
            self.assertEqual(book.log()[-1], ("put", "h", word))
        self.check_refused(book, NoRules, ("ends", "h"), book.put, "h", "ends")
        book = Book(house_of(("on",)))
        book.put("h", "ends")
        self.assertEqual(book.house(), house_of(("ends", "on")))

    def test_each_rule_taken(self):
        book = Book(house_of(("back", "on", "round", "self", "step")))
        self.check_refused(book, NoRules, ("none", "h"), book.take, "h", "ends")
        self.check_refused(book, NoRules, ("round", "h"), book.take, "h", "on")
        for word, rules in (
                ("round", ("back", "on", "self", "step")), ("on", ("back", "self", "step")), ("self", ("back", "step")),
                ("back", ("step",)), ("step", ())):
            self.assertEqual(book.take("h", word), ((), 0))
            self.assertEqual(book.house(), house_of(rules))
            self.check_refused(book, NoRules, ("none", "h"), book.take, "h", word)
            self.assertEqual(book.log()[-1], ("take", "h", word))
        book = Book(house_of(("ends", "on")))
        self.check_refused(book, NoRules, ("ends", "h"), book.take, "h", "on")
        book.take("h", "ends")
        self.assertEqual(book.house(), house_of(("on",)))

    def test_rules_of_no_hand(self):
        book = Book(TWO)
        for word in ("back", "ends", "on", "round", "self", "step"):
            self.check_refused(book, NoHand, ("x",), book.put, "x", word)
            self.check_refused(book, NoHand, ("x",), book.take, "x", word)

    def test_put_where_it_would_be_no_let_house(self):
        book = Book(((("h", ("on",)), ("k", ("on",))), (("h", "k"),)))
        self.check_refused(book, NoRules, ("rules", "h"), book.put, "k", "self")
        self.check_refused(book, NoRules, ("ends", "k"), book.put, "k", "ends")
        self.check_refused(book, NoRules, ("ends", "h"), book.put, "h", "ends")
        self.check_refused(book, NoRules, ("rules", "h"), book.take, "h", "on")
        self.check_refused(book, NoRules, ("round", "h"), Book(house_of(())).put, "h", "round")
        self.assertEqual(book.put("k", "step"), ((), 0))
        self.assertEqual(book.put("h", "self"), ((), 0))
        self.assertEqual(book.put("k", "self"), ((), 0))

    def test_rules_are_judged_by_who_has_the_hand(self):
        book = self.three_deep()
        book.lay("k", ((so(must("k", A), must("k", A)), ("from", ())),))
        self.assertEqual(book.put("h", "step"), ((), 3))
        self.assertEqual(book.put("k", "step"), ((), 1))
        self.assertEqual(book.take("k", "step"), ((), 1))
        self.assertEqual(book.take("h", "on"), ((), 3))
        self.assertEqual(book.take("h", "self"), (
            (("self", "rule", 0), ("bys", "by", 0), ("deep", "by", 0)), 3))
        self.assertEqual(book.showing_names(), ("lone", "k"))
        self.assertEqual(book.put("h", "self"), ((), 0))
        self.assertEqual(book.showing_names(), ("lone", "k"))

    def test_those_that_fall_are_told_with_their_rows(self):
        book = Book(TWO)
        book.lay("a", LONE + ON + SELF)
        book.lay("b", ON + LONE)
        book.lay("c", SELF + ((T, ("from", (0,))),))
        self.assertEqual(book.take("h", "on"), ((("a", "rule", 1), ("b", "rule", 0)), 3))
        self.assertEqual(book.take("h", "self"), ((("c", "rule", 0),), 1))

    def test_whoever_falls_takes_others_along(self):
        book = Book(TWO)
        book.lay("a", SELF + LONE)
        book.lay("b", ((TAUT, ("by", "a")),))
        book.lay("c", LONE + ((TAUT, ("by", "b")),))
        book.lay("d", LONE)
        # b and c have no HAND in them: they are judged since the one they name fell.
        self.assertEqual(book.take("h", "self"), ((("a", "rule", 0), ("b", "by", 0), ("c", "by", 1)), 3))
        self.assertEqual(book.showing_names(), ("d",))

    def test_only_who_hangs_on_one_that_fell_is_judged(self):
        book = Book(TWO)
        book.lay("a", ((TAUT, ("from", ())),))
        book.lay("b", SELF)
        book.lay("c", ((TAUT, ("by", "a")), (must("h", TAUT), ("must", 0, "h", 0))))
        book.lay("d", ((TAUT, ("by", "a")),))
        self.assertEqual(book.take("h", "self"), ((("b", "rule", 0),), 2))
        self.assertEqual(book.showing_names(), ("a", "c", "d"))

    def test_hands_that_stand_somewhere(self):
        for thing, hit in (
                (((so(must("k", A), must("k", A)), ("from", ())), (T, ("from", ()))), True),
                (((so(may("h", may("k", A)), T), ("from", ())), (T, ("from", ()))), True),
                (((T, ("from", ())), (must("k", T), ("must", 0, "k", 0)), (T, ("from", ()))), True),
                (((no(must("h", F)), ("rule", "step", "h", may("k", A))),), True),
                (((no(must("h", F)), ("rule", "step", "h", A)),), False),
                (((so(must("h", A), must("k", A)), ("bridge", "h", "k", A)), (T, ("from", ()))), True),
                (((so(must("h", A), A), ("rule", "self", "h", A)),), False),
                (((T, ("from", ())),), False)):
            book = Book(((("h", ("self", "step")), ("k", ())), (("h", "k"),)))
            book.lay("a", thing)
            self.assertEqual(book.put("k", "step"), ((), int(hit)), thing)

    def test_names_and_hands_that_are_called_as_rules_are(self):
        book = Book(((("h", ("on", "self")), ("on", ()), ("put", ())), ()))
        book.lay("self", LONE)
        book.lay("h", LONE)
        book.lay("a", SELF)
        book.lay("b", ((so(must("on", A), must("on", A)), ("from", ())),))
        book.lay("c", ((so(must("put", A), must("put", A)), ("from", ())),))
        self.assertEqual(book.drop("self"), ((), 0))
        self.assertEqual(book.drop("h"), ((), 0))
        self.assertEqual(book.put("h", "step"), ((), 1))
        self.assertEqual(book.take("h", "on"), ((), 1))
        self.assertEqual(book.put("on", "step"), ((), 1))
        self.assertEqual(book.bridge("put", "on"), ((), 2))
        self.assertEqual(book.showing_names(), ("a", "b", "c"))

    def test_bridges(self):
        book = Book(((("h", ("on",)), ("j", ("on",)), ("k", ())), ()))
        self.assertEqual(book.bridge("h", "j"), ((), 0))
        self.assertEqual(book.bridge("j", "k"), ((), 0))
        self.assertEqual(book.bridge("h", "k"), ((), 0))
        self.assertEqual(book.house()[1], (("h", "j"), ("h", "k"), ("j", "k")))
        self.check_refused(book, NoRules, ("there", "h"), book.bridge, "h", "j")
        self.check_refused(book, NoRules, ("ring", "h"), book.bridge, "j", "h")
        self.check_refused(book, NoRules, ("rules", "k"), book.bridge, "k", "h")
        self.check_refused(book, NoRules, ("same", "h"), book.bridge, "h", "h")
        self.check_refused(book, NoRules, ("lacks", "x"), book.bridge, "x", "h")
        self.check_refused(book, NoRules, ("lacks", "x"), book.bridge, "h", "x")
        self.check_refused(book, NoRules, ("none", "k"), book.unbridge, "k", "h")
        self.check_refused(book, NoRules, ("none", "x"), book.unbridge, "x", "y")
        self.assertEqual(book.unbridge("j", "k"), ((), 0))
        self.assertEqual(book.house()[1], (("h", "j"), ("h", "k")))
        self.check_refused(book, NoRules, ("none", "j"), book.unbridge, "j", "k")
        self.assertEqual(book.log()[1:], (("bridge", "h", "j"), ("bridge", "j", "k"), ("bridge", "h", "k"),
            ("unbridge", "j", "k")))

    def test_bridges_that_are_hung_on(self):
        book = Book(((("h", ()), ("j", ()), ("k", ())), (("h", "j"), ("h", "k"))))
        book.lay("hj", ((so(must("h", A), must("j", A)), ("bridge", "h", "j", A)),))
        book.lay("hk", ((so(must("h", A), must("k", A)), ("bridge", "h", "k", A)),))
        book.lay("j", ((so(must("j", A), must("j", A)), ("from", ())),))
        book.lay("n", LONE)
        self.assertEqual(book.bridge("k", "j"), ((), 3))
        self.assertEqual(book.unbridge("h", "j"), ((("hj", "bridge", 0),), 3))
        self.assertEqual(book.showing_names(), ("hk", "j", "n"))
        self.assertEqual(book.unbridge("h", "k"), ((("hk", "bridge", 0),), 1))

    def test_put_add_hand_bridge_let_none_fall(self):
        book = self.three_deep()
        names = book.showing_names()
        for told in (book.put("h", "step"), book.add_hand("j"), book.bridge("h", "k"), book.put("h", "back"),
            book.put("h", "round")):
            self.assertEqual(told[0], ())
        self.assertEqual(book.showing_names(), names)


class Asked(Books):
    def test_ask(self):
        book = self.three_deep()
        ahead = state(book)
        for s, word in ((so(must("h", A), A), "shown"), (so(must("k", A), A), "against"), (A, "against"), (T, "shown")):
            found = book.ask(s)
            self.assertEqual(found[0], word)
            self.assertIs(lets_answered(TWO, s, found), word == "shown")
        self.assertEqual(state(book), ahead)
        book.take("h", "self")
        self.assertEqual(book.ask(saying=so(must("h", A), A))[0], "against")

    def test_ask_of_hands_that_are_not_there(self):
        book = self.three_deep()
        self.check_refused(book, NoHand, ("j",), book.ask, both(must("z", A), may("j", B), must("h", C)))
        book.bare("k")
        self.check_refused(book, NoHand, ("k",), book.ask, must("k", T))


class Wholes(Books):
    def test_without_by(self):
        book = self.three_deep()
        self.assertEqual(book.whole_showing("self"), SELF)
        self.assertEqual(book.whole_showing("lone"), LONE)

    def test_by_within_by(self):
        book = self.three_deep()
        whole = (
            SELF[0], (BY_SELF[-1][0], ("from", (0,))), (BY_BY[-1][0], ("must", 1, "h", 0)))
        self.assertEqual(book.whole_showing("bys"), whole[:2])
        self.assertEqual(book.whole_showing("deep"), whole)
        self.assertIs(lets_showing(TWO, whole), whole[-1][0])

    def test_by_in_the_midst(self):
        book = Book(TWO)
        book.lay("two", ((T, ("from", ())), (so(must("h", A), A), ("rule", "self", "h", A)), (TAUT, ("from", (0, 1)))))
        book.lay("many", (
            (no(F), ("from", ())), (TAUT, ("by", "two")), (must("h", TAUT), ("must", 1, "h", 0)), (TAUT, ("by", "two")),
            (both(TAUT, no(F)), ("from", (0, 1, 3))), (must("h", TAUT), ("must", 3, "h", 0)), (TAUT, ("by", "two"))))
        self.assertEqual(book.whole_showing("many"), (
            (no(F), ("from", ())),
            (T, ("from", ())), (so(must("h", A), A), ("rule", "self", "h", A)), (TAUT, ("from", (1, 2))),
            (must("h", TAUT), ("must", 3, "h", 0)),
            (T, ("from", ())), (so(must("h", A), A), ("rule", "self", "h", A)), (TAUT, ("from", (5, 6))),
            (both(TAUT, no(F)), ("from", (0, 3, 7))),
            (must("h", TAUT), ("must", 7, "h", 0)),
            (T, ("from", ())), (so(must("h", A), A), ("rule", "self", "h", A)), (TAUT, ("from", (10, 11)))))
        self.assertEqual(lets_showing(TWO, book.whole_showing("many")), TAUT)

    def test_most(self):
        book = self.three_deep()
        for most in (3, 4, 10 ** 59):
            self.assertEqual(len(book.whole_showing("deep", most=most)), 3)
        for most in (2, 1, 0, -1, -10 ** 59):
            self.check_refused(book, NoMore, (most,), book.whole_showing, "deep", most=most)
        self.assertEqual(book.whole_showing(most=1, name="self"), SELF)
        self.check_refused(book, NoMore, (0,), book.whole_showing, "self", most=0)
        with self.assertRaises(TypeError):
            book.whole_showing("deep", 3)

    def test_no_name_goes_ahead(self):
        book = self.three_deep()
        self.check_refused(book, NoName, ("x",), book.whole_showing, "x", most=0)
        self.check_refused(book, NoName, ("x",), book.whole_showing, "x")

    def test_left_out_it_is_four_hundred(self):
        book = Book(TWO)
        book.lay("a", ((TAUT, ("from", ())),) * 400)
        self.assertEqual(len(book.whole_showing("a")), 400)
        book.lay("b", ((TAUT, ("by", "a")), (TAUT, ("from", ()))))
        self.check_refused(book, NoMore, (400,), book.whole_showing, "b")
        self.assertEqual(len(book.whole_showing("b", most=401)), 401)

    def test_very_many_rows(self):
        book = Book(TWO)
        book.lay("a", LONE)
        names = [x + y for x in "abcdefgh" for y in "abcdefgh"]
        for ahead, name in zip(["a"] + names, names):
            book.lay(name, ((TAUT, ("by", ahead)), (TAUT, ("by", ahead))))
        self.assertEqual(len(book.whole_showing("ac")), 8)
        self.check_refused(book, NoMore, (10 ** 6,), book.whole_showing, names[-1], most=10 ** 6)
        book.lay("z", LONE)
        self.assertEqual(book.whole_showing("z"), LONE)


class Logged(Books):
    def test_log_len_str(self):
        book = self.three_deep()
        book.add_hand("j")
        book.undo()
        self.assertEqual(len(book), 4)
        self.assertEqual(book.log(), (
            ("book", TWO), ("lay", "self", SELF), ("lay", "bys", BY_SELF), ("lay", "lone", LONE),
            ("lay", "deep", BY_BY)))
        self.assertEqual(str(book), (
            "book h:on,self;k:-/- / lay self ([h]a>a) rule self h a / lay bys ([h]a>a) by self | ([h]a>(a|b)) from 0"
            " / lay lone (a|~a) from - / lay deep ([h]a>(a|b)) by bys | [h]([h]a>(a|b)) must 0 h 0"))
        self.assertIs(type(str(book)), str)

    def test_equal(self):
        book, other = self.three_deep(), self.three_deep()
        self.assertTrue(book == other)
        self.assertFalse(book != other)
        self.assertTrue(book == book)
        other.drop("lone")
        self.assertFalse(book == other)
        self.assertTrue(book != other)
        other.undo()
        self.assertTrue(book == other)
        self.assertTrue(Book(TWO) == Book(TWO))
        self.assertTrue(Book(TWO) != Book(house_of(())))
        self.assertFalse(Book(TWO) == Book(house_of(())))

    def test_equal_by_the_log_alone(self):
        one, other = Book(TWO), Book(TWO)
        one.add_hand("j")
        one.bare("j")
        self.assertEqual(one.house(), other.house())
        self.assertFalse(one == other)
        self.assertTrue(one != other)

    def test_no_other_thing_is_equal(self):
        book = Book(TWO)
        for thing in (None, True, False, 0, 1, "", str(book), (), [], book.log(), list(book.log()), TWO):
            self.assertIs(book == thing, False)
            self.assertIs(book != thing, True)
            self.assertIs(thing == book, False)
            self.assertIs(thing != book, True)

    def test_elder(self):
        book = Book(TWO)
        book.put("h", "step")
        book.lay("a", LONE)
        book.bare("k")
        stepped = ((("h", ("on", "self", "step")), ("k", ())), ())
        self.assertEqual([book.elder(k) for k in range(4)], [TWO, stepped, stepped, (stepped[0][:1], ())])
        for k in (4, -1, 5, 10 ** 59, -10 ** 59):
            self.check_refused(book, NoStep, (k,), book.elder, k)
        book.undo()
        self.check_refused(book, NoStep, (3,), book.elder, 3)
        self.assertEqual(book.elder(k=2), stepped)

    def test_undo(self):
        book = self.three_deep()
        ahead = state(book)
        for row in (
                ("drop", "self"), ("hand", "j"), ("bare", "h"), ("put", "k", "step"), ("take", "h", "self"),
                ("bridge", "h", "k"), ("lay", "bys", LONE), ("drop", "lone"), ("lay", "new", LONE)):
            self.assertEqual(book.do_all([row]), 1)
            self.assertNotEqual(state(book), ahead)
            self.assertEqual(book.undo(), row)
            self.assertEqual(state(book), ahead)

    def test_undo_of_none(self):
        book = Book(TWO)
        self.check_refused(book, NoStep, (0,), book.undo)
        book.add_hand("j")
        book.undo()
        self.check_refused(book, NoStep, (0,), book.undo)

    def test_those_that_fell_stand_again_in_their_places(self):
        book = self.three_deep()
        book.lay("last", LONE)
        book.take("h", "self")
        self.assertEqual(book.showing_names(), ("lone", "last"))
        book.drop("last")
        book.undo()
        book.undo()
        self.assertEqual(book.showing_names(), ("self", "bys", "lone", "deep", "last"))
        self.assertEqual(book.drop("self"), ((("bys", "by", 0), ("deep", "by", 0)), 2))


class DoneInOne(Books):
    ROWS = (("lay", "self", SELF), ("lay", "bys", BY_SELF), ("hand", "j"), ("put", "j", "on"), ("bridge", "h", "k"),
            ("take", "h", "on"), ("unbridge", "h", "k"), ("bare", "k"), ("drop", "bys"))

    def test_all(self):
        for deeds in (self.ROWS, list(self.ROWS)):
            book, other = Book(TWO), Book(TWO)
            self.assertEqual(book.do_all(deeds), 9)
            self.assertEqual(book.log(), (("book", TWO), *self.ROWS))
            self.assertEqual(len(book), 9)
            self.assertEqual(book.walks(), 0)
            other.lay("self", SELF)
            other.lay("bys", BY_SELF)
            other.add_hand("j")
            other.put("j", "on")
            other.bridge("h", "k")
            other.take("h", "on")
            other.unbridge("h", "k")
            other.bare("k")
            other.drop("bys")
            self.assertEqual(state(book), state(other))
            self.assertEqual(book.undo(), ("drop", "bys"))
        self.assertEqual(list(self.ROWS), list(DoneInOne.ROWS))

    def test_none(self):
        book = self.three_deep()
        self.assertEqual(book.do_all(()), 0)
        self.assertEqual(book.do_all([], keep=True), 0)
        self.assertEqual(len(book), 4)

    def test_refused_amid(self):
        for row, error, fields in (
                (("drop", "x"), NoName, ("x",)), (("lay", "a", None), NoPaper, ("shape", -1)),
                (("lay", "self", ((A, ("by", "self")),)), NoPaper, ("by", 0)), (("hand", "h"), NoRules, ("there", "h")),
                (("bare", "x"), NoHand, ("x",)), (("put", "x", "on"), NoHand, ("x",)),
                (("put", "h", "ends"), NoRules, ("ends", "h")), (("take", "k", "on"), NoRules, ("none", "k")),
                (("bridge", "k", "h"), NoRules, ("rules", "k")), (("unbridge", "k", "h"), NoRules, ("none", "k"))):
            for at in (0, 1, 2, 3):
                book = self.three_deep()
                rows = [("drop", "lone"), ("hand", "j"), ("drop", "self")]
                rows.insert(at, row)
                self.check_refused(book, error, fields, book.do_all, rows)
                self.check_refused(book, error, fields, book.do_all, tuple(rows), keep=False)
                with self.assertRaises(error) as caught:
                    book.do_all(keep=True, deeds=rows)
                self.assertEqual(tuple(vars(caught.exception).values()), fields)
                self.assertEqual(book.log()[5:], tuple(rows[:at]))
                self.assertEqual(book.walks(), 0)
                for done in rows[:at][::-1]:
                    self.assertEqual(book.undo(), done)
                self.assertEqual(state(book), state(self.three_deep()))

    def test_each_a_deed_of_its_own(self):
        book = Book(TWO)
        book.do_all(self.ROWS)
        for row in self.ROWS[::-1]:
            self.assertEqual(book.undo(), row)
        self.assertEqual(state(book), state(Book(TWO)))

    def test_keep_by_its_name_alone(self):
        with self.assertRaises(TypeError):
            Book(TWO).do_all([], True)


class Apart(Books):
    def test_two_books_have_nothing_in_common(self):
        one, other = Book(TWO), Book(TWO)
        one.lay("a", LONE)
        one.put("k", "step")
        self.assertEqual(state(other), state(Book(TWO)))
        other.lay("b", SELF)
        self.assertEqual(one.showing_names(), ("a",))

    def test_what_was_told_stays_what_it_was(self):
        book = self.three_deep()
        told = state(book)
        copies = repr(told)
        book.take("h", "self")
        book.undo()
        book.bare("k")
        book.lay("lone", ON)
        self.assertEqual(repr(told), copies)

    def test_rows_that_are_handed_in_are_not_kept(self):
        rows = [("lay", "a", LONE), ("hand", "j")]
        book = Book(TWO)
        book.do_all(rows)
        rows.append(("drop", "a"))
        rows[0] = None
        self.assertEqual(book.log(), (("book", TWO), ("lay", "a", LONE), ("hand", "j")))

    def test_by_names_in_another_order(self):
        book = Book(house=TWO)
        self.assertEqual(book.lay(thing=SELF, name="a"), (SELF[0][0], (), 0))
        self.assertEqual(book.put(word="step", hand="k"), ((), 0))
        self.assertEqual(book.take(word="step", hand="k"), ((), 0))
        self.assertEqual(book.bridge(other="k", one="h"), ((), 1))
        self.assertEqual(book.unbridge(other="k", one="h"), ((), 1))
        self.assertEqual(book.add_hand(hand="j"), ((), 0))
        self.assertEqual(book.bare(hand="j"), ((), 0))
        self.assertEqual(book.drop(name="a"), ((), 0))
