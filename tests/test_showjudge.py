"""[55], [56], [57]: any thing looked at as a SHOWING, row by row."""

import unittest

from mustmays.answering import answered
from mustmays.errors import NoPaper
from mustmays.showjudge import lets_showing
from tests.judges import bent_ones, let_houses, showing_refusal
from tests.plainly import (
    A, B, C, F, LET_RULES, T, both, either, holds, house_of, is_of, may, must, no, so, some_sayings, some_webs, told,
    webs_of)

FREE = house_of(())
THREE = ((("h", ("on", "self")), ("j", ("self",)), ("k", ("back", "step"))), (("h", "j"),))
TAUT = either(A, no(A))


class Judged(unittest.TestCase):
    def check(self, house, thing, wanted, library=()):
        """wanted is the word and the place of the refusal, or None: then the last SAYING is told."""
        if wanted is None:
            self.assertIs(lets_showing(house, thing, library=library), thing[-1][0])
        else:
            with self.assertRaises(NoPaper) as caught:
                lets_showing(house, thing, library=library)
            self.assertEqual((caught.exception.word, caught.exception.at), wanted, (house, thing))
            self.assertIs(type(caught.exception.at), int)
        self.assertEqual(showing_refusal(house, thing, library), wanted, (house, thing))


class Shapes(Judged):
    def test_no_tuple_of_rows(self):
        row = (TAUT, ("from", ()))
        for thing in (None, True, 0, "", (), [], [row], (row, None), (row, ()), ((TAUT,),), ((*row, 1),), (list(row),),
                      row, (TAUT, TAUT), {}, "row"):
            self.check(FREE, thing, ("shape", -1))

    def test_no_plain_saying(self):
        for thing in (None, 1, "a", (), ("letter", "A"), told(A, B), no(told(A, B)), ["letter", "a"], ("and", [A])):
            self.check(FREE, ((thing, ("from", ())),), ("shape", -1))

    def test_no_why(self):
        for why in (
                None, (), "from", ["from", ()], ("from",), ("from", []), ("from", 0), ("from", None), ("from", (), ()),
                ("from", (True,)), ("from", (0, False)), ("from", ("0",)), ("from", ((0,),)), ("from", (None,)),
                ("must", 0, "h"), ("must", 0, "h", 0, 0), ("must", True, "h", 0), ("must", 0, "h", False),
                ("must", "0", "h", 0), ("must", 0, "H", 0), ("must", 0, "", 0), ("must", 0, 0, 0),
                ("must", 0, "h", None),
                ("must", (0,), "h", 0), ("rule", "on", "h"), ("rule", "on", "h", A, A), ("rule", 1, "h", A),
                ("rule", None, "h", A), ("rule", ("on",), "h", A), ("rule", "on", "H", A),
                ("rule", "on", "abcdefghi", A),
                ("rule", "on", "h", told(A, A)), ("rule", "on", "h", "a"), ("rule", "on", "h", None),
                ("bridge", "h", "k"), ("bridge", "h", "", A), ("bridge", 1, "k", A), ("bridge", "h", "k", told(A, B)),
                ("bridge", "h", "k", A, A), ("bridge", "h", None, A), ("by",), ("by", "A"), ("by", ""), ("by", 1),
                ("by", "a", "a"), ("by", ("a",)), ("by", "abcdefghi"), ("none", "a"), (1, "a"), (True, ()), ("", ()),
                ("on", "h", A), ("By", "a"), (("from",), ()), ("rule", "on"), ("bridge", "h"), ("must", 0),
                ("by", "a", "b", "c"), ("by", "a", A, A), ("from", (), (), ()), ("from", (0,), "h", A),
                ("rule", "on", "h", A, 0),
                ("none", "h", "h", A), ("none", 0, "h", 0)):
            self.check(FREE, ((TAUT, why),), ("shape", -1))

    def test_shape_goes_ahead_of_all(self):
        self.check(FREE, ((must("x", A), ("from", (7,))), (A, ("by", "A"))), ("shape", -1))
        self.check(FREE, ((A, ("from", ())), (told(A, A), ("from", ()))), ("shape", -1))

    def test_by_kind_alone(self):
        self.check(FREE, ((TAUT, ("from", (10 ** 59,))),), ("row", 0))
        self.check(FREE, ((TAUT, ("from", (-1,))),), ("row", 0))
        self.check(FREE, ((TAUT, ("rule", "", "h", A)),), ("rule", 0))
        self.check(FREE, ((TAUT, ("rule", "No word, this one.", "xyz", A)),), ("rule", 0))
        self.check(FREE, ((TAUT, ("bridge", "x", "x", A)),), ("bridge", 0))
        self.check(FREE, ((TAUT, ("by", "abcdefgh")),), ("by", 0))
        self.check(FREE, ((TAUT, ("must", -1, "x", -1)),), ("row", 0))


class From(Judged):
    def test_from_nothing(self):
        for s in (T, TAUT, so(A, A), no(both(A, no(A))), so(must("h", A), must("h", A)),
            so(may("h", A), no(must("h", no(A))))):
            self.check(FREE, ((s, ("from", ())),), None)
        for s in (F, A, must("h", T), so(must("h", both(A, B)), must("h", A)), so(may("h", A), may("h", either(A, B)))):
            self.check(FREE, ((s, ("from", ())),), ("from", 0))

    def test_from_rows(self):
        rows = ((so(A, A), ("from", ())), (so(A, either(A, B)), ("from", (0,))), (T, ("from", (0, 1))))
        self.check(FREE, rows, None)
        shown = ((A, ("by", "a")), (so(A, B), ("by", "b")))
        library = (("a", A), ("b", so(A, B)))
        self.check(FREE, (*shown, (B, ("from", (0, 1)))), None, library)
        self.check(FREE, (*shown, (B, ("from", (0,)))), ("from", 2), library)
        self.check(FREE, (*shown, (B, ("from", (1,)))), ("from", 2), library)
        self.check(FREE, (*shown, (B, ("from", ()))), ("from", 2), library)

    def test_rows_that_are_not_ahead(self):
        one = (TAUT, ("from", ()))
        for rows in ((1,), (2,), (0, 1), (-1,), (-1, 0), (10 ** 59,), (0, 10 ** 59)):
            self.check(FREE, (one, (TAUT, ("from", rows))), ("row", 1))
        self.check(FREE, ((TAUT, ("from", (0,))),), ("row", 0))
        self.check(FREE, (one, one, (TAUT, ("from", (1,)))), None)

    def test_rows_that_do_not_rise(self):
        some = ((TAUT, ("from", ())),) * 3
        for rows in ((0, 0), (1, 0), (0, 2, 1), (2, 2), (0, 1, 1)):
            self.check(FREE, (*some, (TAUT, ("from", rows))), ("row", 3))
        self.check(FREE, (*some, (TAUT, ("from", (0, 1, 2)))), None)

    def test_sixteen_outer_atoms(self):
        words = [("letter", sign) for sign in "abcdefghijklmnopq"]
        sixteen, seventeen = both(*words[:16]), both(*words)
        self.assertEqual(lets_showing(FREE, ((so(sixteen, A), ("from", ())),)), so(sixteen, A))
        self.check(FREE, ((so(seventeen, A), ("from", ())),), ("from", 0))
        # Those of the rows, and its own, are counted all together, each once.
        eight, others = both(*words[:8]), both(*words[8:16])
        rows = ((so(eight, A), ("from", ())), (so(others, words[8]), ("from", ())))
        self.assertIs(lets_showing(FREE, (*rows, (T, ("from", (0, 1))))), T)
        self.assertIs(lets_showing(FREE, (*rows, (TAUT, ("from", (0, 1))))), TAUT)
        over = either(words[16], no(words[16]))
        self.check(FREE, (*rows, (over, ("from", (0, 1)))), ("from", 2))
        self.check(FREE, (*rows, (over, ("from", (0,)))), None)
        self.check(FREE, (*rows, (over, ("from", ())), (T, ("from", (0, 1, 2)))), ("from", 3))

    def test_atoms_within_a_must_count_once(self):
        words = [("letter", sign) for sign in "abcdefghijklmnopq"]
        self.check(FREE, ((so(must("h", both(*words)), must("h", both(*words))), ("from", ())),), None)

    def test_false_rows(self):
        library = (("f", F),)
        self.check(FREE, ((F, ("by", "f")), (must("h", A), ("from", (0,)))), None, library)


class Musted(Judged):
    def test_none_deep(self):
        self.check(FREE, ((TAUT, ("from", ())), (must("h", TAUT), ("must", 0, "h", 0))), None)
        self.check(FREE, ((TAUT, ("from", ())), (must("h", TAUT), ("must", 0, "h", 1))), ("must", 1))
        self.check(FREE, ((TAUT, ("from", ())), (must("h", so(A, A)), ("must", 0, "h", 0))), ("must", 1))
        self.check(FREE, ((so(A, A), ("from", ())), (must("h", so(A, A)), ("must", 0, "h", 0))), None)
        self.check(FREE, ((T, ("from", ())), (must("h", must("h", T)), ("must", 0, "h", 0))), ("must", 1))

    def test_some_deep(self):
        rows = ((so(A, so(B, A)), ("from", ())),)
        self.check(FREE, (*rows, (so(must("h", A), must("h", so(B, A))), ("must", 0, "h", 1))), None)
        self.check(FREE, (*rows, (so(must("h", A), so(must("h", B), must("h", A))), ("must", 0, "h", 2))), None)
        for n in (-1, 0, 1, 3, 10 ** 59, -10 ** 59):
            deep = so(must("h", A), so(must("h", B), must("h", A)))
            self.check(FREE, (*rows, (deep, ("must", 0, "h", n))), ("must", 1))
        for n in (-1, 0, 2, 3):
            self.check(FREE, (*rows, (so(must("h", A), must("h", so(B, A))), ("must", 0, "h", n))), ("must", 1))

    def test_the_so_itself_not_what_stands_in_it(self):
        rows = ((either(no(A), A), ("from", ())),)
        self.check(FREE, (*rows, (so(must("h", A), must("h", A)), ("must", 0, "h", 1))), ("must", 1))

    def test_of_the_row_that_is_told(self):
        rows = ((TAUT, ("from", ())), (so(A, A), ("from", ())))
        self.check(FREE, (*rows, (must("h", TAUT), ("must", 0, "h", 0))), None)
        self.check(FREE, (*rows, (must("h", TAUT), ("must", 1, "h", 0))), ("must", 2))
        for row in (2, 3, -1, 10 ** 59):
            self.check(FREE, (*rows, (must("h", TAUT), ("must", row, "h", 0))), ("row", 2))

    def test_hands(self):
        rows = ((TAUT, ("from", ())),)
        for hand in "hjk":
            self.check(THREE, (*rows, (must(hand, TAUT), ("must", 0, hand, 0))), None)
        self.check(THREE, (*rows, (must("h", TAUT), ("must", 0, "k", 0))), ("must", 1))
        self.check(THREE, (*rows, (must("h", TAUT), ("must", 0, "x", 0))), ("must", 1))
        self.check(THREE, (*rows, (must("x", TAUT), ("must", 0, "x", 0))), ("hand", 1))
        self.check(THREE, (*rows, (must("x", TAUT), ("must", 5, "x", 0))), ("hand", 1))


class Schemes(Judged):
    def test_rules(self):
        for p in (A, must("h", B), F, both(A, may("h", C))):
            m = must("h", p)
            for word, s in (
                    ("step", no(must("h", F))), ("self", so(m, p)), ("on", so(m, must("h", m))),
                    ("back", so(no(p), must("h", no(m)))), ("round", so(no(m), must("h", no(m)))),
                    ("ends", so(must("h", so(m, p)), m))):
                for rules in LET_RULES:
                    self.check(house_of(rules), ((s, ("rule", word, "h", p)),), None if word in rules else ("rule", 0))

    def test_just_so(self):
        self.check(THREE, ((so(must("j", A), A), ("rule", "self", "j", A)),), None)
        self.check(THREE, ((so(must("j", A), A), ("rule", "self", "h", A)),), ("rule", 0))
        self.check(THREE, ((so(must("j", A), A), ("rule", "self", "j", B)),), ("rule", 0))
        self.check(THREE, ((so(must("j", A), B), ("rule", "self", "j", A)),), ("rule", 0))
        self.check(THREE, ((so(must("j", A), A), ("rule", "on", "j", A)),), ("rule", 0))
        self.check(THREE, ((so(must("j", A), A), ("rule", "self", "x", A)),), ("rule", 0))
        self.check(THREE, ((no(must("k", no(no(F)))), ("rule", "step", "k", A)),), ("rule", 0))
        self.check(THREE, ((may("k", T), ("rule", "step", "k", A)),), ("rule", 0))

    def test_step_by_whatever_hands(self):
        for p in (A, must("x", B), may("y", must("h", A)), must("abcdefgh", F)):
            self.check(THREE, ((no(must("k", F)), ("rule", "step", "k", p)),), None)
        self.check(THREE, ((so(must("j", must("x", A)), must("x", A)), ("rule", "self", "j", must("x", A))),),
            ("hand", 0))

    def test_bridges(self):
        self.check(THREE, ((so(must("h", A), must("j", A)), ("bridge", "h", "j", A)),), None)
        self.check(THREE, ((so(must("h", must("k", B)), must("j", must("k", B))), ("bridge", "h", "j", must("k", B))),
            ), None)
        self.check(THREE, ((so(must("j", A), must("h", A)), ("bridge", "j", "h", A)),), ("bridge", 0))
        self.check(THREE, ((so(must("h", A), must("k", A)), ("bridge", "h", "k", A)),), ("bridge", 0))
        self.check(THREE, ((so(must("h", A), must("h", A)), ("bridge", "h", "h", A)),), ("bridge", 0))
        self.check(THREE, ((so(must("h", A), must("j", A)), ("bridge", "h", "j", B)),), ("bridge", 0))
        self.check(THREE, ((so(must("h", A), must("j", A)), ("bridge", "h", "x", A)),), ("bridge", 0))
        self.check(THREE, ((so(must("h", A), must("x", A)), ("bridge", "h", "x", A)),), ("hand", 0))


class By(Judged):
    def test_names(self):
        library = (("a", A), ("b", must("h", A)))
        self.check(FREE, ((A, ("by", "a")),), None, library)
        self.check(FREE, ((must("h", A), ("by", "b")),), None, library)
        self.check(FREE, ((A, ("by", "b")),), ("by", 0), library)
        self.check(FREE, ((B, ("by", "a")),), ("by", 0), library)
        self.check(FREE, ((A, ("by", "c")),), ("by", 0), library)
        self.check(FREE, ((A, ("by", "a")),), ("by", 0))
        self.check(FREE, ((TAUT, ("by", "a")),), ("by", 0), library)

    def test_the_library_is_by_name_alone(self):
        with self.assertRaises(TypeError):
            lets_showing(FREE, ((A, ("by", "a")),), (("a", A),))
        self.assertEqual(lets_showing(thing=((A, ("by", "a")),), library=(("a", A),), house=FREE), A)

    def test_of_hands_that_are_not_there(self):
        self.check(FREE, ((must("x", A), ("by", "a")),), ("hand", 0), (("a", must("x", A)),))


class Orders(Judged):
    def test_row_by_row(self):
        self.check(FREE, ((A, ("from", ())), (must("x", A), ("from", (9,)))), ("from", 0))
        self.check(FREE, ((must("x", A), ("from", (9,))), (A, ("from", ()))), ("hand", 0))
        self.check(FREE, ((TAUT, ("from", ())), (A, ("from", (1,))), (B, ("by", "b"))), ("row", 1))
        self.check(FREE, ((TAUT, ("from", ())), (TAUT, ("from", ())), (B, ("by", "b"))), ("by", 2))

    def test_in_a_row(self):
        self.check(FREE, ((may("x", A), ("from", (5,))),), ("hand", 0))
        self.check(FREE, ((may("x", A), ("rule", "self", "x", A)),), ("hand", 0))
        self.check(FREE, ((A, ("from", (5,))),), ("row", 0))
        self.check(FREE, ((A, ("must", 5, "h", 5)),), ("row", 0))

    def test_hands_of_may_and_deep_ones(self):
        self.check(FREE, ((either(T, must("h", may("k", A))), ("from", ())),), ("hand", 0))
        self.check(FREE, ((so(may("z", A), T), ("from", ())),), ("hand", 0))

    def test_the_last_saying_is_told(self):
        rows = ((TAUT, ("from", ())), (must("h", TAUT), ("must", 0, "h", 0)), (T, ("from", ())))
        self.assertIs(lets_showing(FREE, rows), T)
        self.assertEqual(lets_showing(FREE, rows[:2]), must("h", TAUT))

    def test_what_is_handed_in_stays(self):
        thing = [[A, ["from", []]]]
        with self.assertRaises(NoPaper):
            lets_showing(FREE, thing)
        self.assertEqual(thing, [[A, ["from", []]]])


class Many(Judged):
    def showings(self, seed, many, house):
        for s in some_sayings(seed, many, hands=[hand for hand, rules in house[0]]):
            found = answered(house, s)
            if found[0] == "shown":
                yield found[1]

    def test_bent_ones(self):
        words = set()
        houses = let_houses(350, 30) + [THREE, house_of(("back", "on"))]
        for k, house in enumerate(houses):
            some = [p for p in self.showings(351 + k, 25, house) if len(p) > 2]
            for thing in bent_ones(352 + k, some, 120) if some else ():
                wanted = showing_refusal(house, thing)
                words.add(wanted and wanted[0])
                self.check(house, thing, wanted)
        self.assertLessEqual({None, "shape", "hand", "row", "from", "must", "rule"}, words)

    def test_bent_by_hand(self):
        s = so(must("h", A), must("j", A))
        thing = (
            (s, ("bridge", "h", "j", A)), (so(must("j", A), A), ("rule", "self", "j", A)),
            (so(must("h", A), A), ("from", (0, 1))), (so(must("k", must("h", A)), must("k", A)), ("must", 2, "k", 1)),
            (B, ("by", "b")), (either(B, C), ("from", (4,))))
        library = (("b", B), ("c", C))
        self.check(THREE, thing, None, library)
        words = set()
        for bent in bent_ones(353, [thing], 3000):
            wanted = showing_refusal(THREE, bent, library)
            words.add(wanted and wanted[0])
            self.check(THREE, bent, wanted, library)
        self.assertEqual(words, {None, "shape", "hand", "row", "from", "must", "rule", "bridge", "by"})

    def test_shown_holds_in_each_web_of_the_house(self):
        for k, rules in enumerate(LET_RULES):
            house = house_of(rules)
            webs = list(webs_of(house, 2, ("a", "b")))
            for thing in self.showings(370 + k, 30, house):
                s = lets_showing(house, thing)
                self.assertTrue(all(holds(web, w, s) for web in webs for w in range(2)))

    def test_shown_by_a_library_holds_where_that_does(self):
        house = house_of(("on",))
        library = (("a", so(A, must("h", A))), ("b", either(A, B)))
        thing = (
            (so(A, must("h", A)), ("by", "a")), (either(A, B), ("by", "b")),
            (so(no(must("h", A)), B), ("from", (0, 1))),
            (so(must("h", no(must("h", A))), must("h", B)), ("must", 2, "h", 1)))
        s = lets_showing(house, thing, library=library)
        seen = 0
        for web in some_webs(371, 4000, most=3):
            if is_of(((("h", ("on",)), ("k", ())), ()), web) and all(
                    holds(web, w, t) for w in range(web[0]) for name, t in library):
                seen += 1
                self.assertTrue(all(holds(web, w, s) for w in range(web[0])))
        self.assertGreater(seen, 100)

    def test_more_hands_rules_bridges_names(self):
        house = ((("h", ("self",)), ("k", ())), ())
        more = ((("h", ("on", "self")), ("j", ()), ("k", ("step",))), (("h", "k"),))
        some = list(self.showings(372, 60, house))
        self.assertGreater(len(some), 5)
        for thing in some:
            self.assertIs(lets_showing(house, thing), thing[-1][0])
            self.assertIs(lets_showing(more, thing, library=(("a", A),)), thing[-1][0])
