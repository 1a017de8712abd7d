"""[59]: any thing looked at as what a SAYING is ANSWERED."""

import unittest

from mustmays.answering import answered
from mustmays.answerjudge import lets_answered
from mustmays.errors import NoPaper
from tests.judges import answer_refusal, bent_ones, let_houses
from tests.plainly import A, B, T, both, either, house_of, may, must, no, so, some_sayings

HOUSE = ((("h", ("on", "self")), ("k", ("step",))), (("h", "k"),))
TAUT = either(A, no(A))
WEB = (2, (("h", ((0, 0), (0, 1), (1, 1))), ("k", ((0, 1), (1, 1)))), (("a", (1,)),))


class AnswerJudge(unittest.TestCase):
    def check(self, house, s, thing, wanted):
        """wanted is the word and the place of the refusal, or None."""
        if wanted is None:
            self.assertIs(lets_answered(house, s, thing), thing[0] == "shown")
        else:
            with self.assertRaises(NoPaper) as caught:
                lets_answered(house, s, thing)
            self.assertEqual((caught.exception.word, caught.exception.at), wanted, (house, s, thing))
            self.assertIs(type(caught.exception.at), int)
        self.assertEqual(answer_refusal(house, s, thing), wanted, (house, s, thing))

    def test_shown(self):
        self.check(HOUSE, TAUT, ("shown", ((TAUT, ("from", ())),)), None)
        self.check(HOUSE, so(must("h", A), A), ("shown", ((so(must("h", A), A), ("rule", "self", "h", A)),)), None)

    def test_shape(self):
        row = (TAUT, ("from", ()))
        for thing in (
                None, 1, "shown", (), ("shown",), ["shown", (row,)], ("shown", (row,), ()), ("Shown", (row,)),
                (True, (row,)), (("shown",), (row,)), ("against",), ("against", WEB), ("against", WEB, 0, 0),
                ["against", WEB, 0], ("against", list(WEB), 0), ("against", WEB, True), ("against", WEB, "0"),
                ("against", WEB, None), ("against", (0, (), ()), 0), ("against", None, 0), ("shown", WEB, 0),
                ("against", (row,)), ("down", ()), (1, WEB, 0), ("against", WEB, (0,))):
            self.check(HOUSE, TAUT, thing, ("shape", -1))

    def test_shown_is_refused_as_the_showing_is(self):
        for thing, wanted in (
                ((), ("shape", -1)), (None, ("shape", -1)), ([(TAUT, ("from", ()))], ("shape", -1)),
                (((TAUT, ("from", ())), (must("x", A), ("from", ()))), ("hand", 1)),
                (((TAUT, ("from", (0,))),), ("row", 0)), (((A, ("from", ())),), ("from", 0)),
                (((A, ("by", "a")),), ("by", 0)), (((A, ("rule", "self", "h", A)),), ("rule", 0)),
                (((A, ("bridge", "h", "k", A)),), ("bridge", 0)),
                (((TAUT, ("from", ())), (A, ("must", 0, "h", 0))), ("must", 1))):
            self.check(HOUSE, TAUT, ("shown", thing), wanted)

    def test_other(self):
        self.check(HOUSE, TAUT, ("shown", ((T, ("from", ())),)), ("other", -1))
        self.check(HOUSE, T, ("shown", ((TAUT, ("from", ())),)), ("other", -1))
        self.check(HOUSE, TAUT, ("shown", ((TAUT, ("from", ())), (T, ("from", ())))), ("other", -1))
        self.check(HOUSE, TAUT, ("shown", ((T, ("from", ())), (TAUT, ("from", ())))), None)
        self.check(HOUSE, no(TAUT), ("shown", ((TAUT, ("from", ())),)), ("other", -1))

    def test_against(self):
        self.check(HOUSE, A, ("against", WEB, 0), None)
        self.check(HOUSE, may("k", no(A)), ("against", WEB, 1), None)
        self.check(HOUSE, A, ("against", (3, WEB[1][:0], ()), 0), ("house", -1))
        self.check(house_of(()), A, ("against", (3, (), (("x", (0, 1)),)), 2), None)

    def test_house(self):
        self.check(house_of(("on", "self")), A, ("against", WEB, 0), ("house", -1))
        self.check(HOUSE, A, ("against", (1, (("h", ((0, 0),)),), ()), 5), ("house", -1))
        self.check(HOUSE, A, ("against", (1, (("k", ((0, 0),)),), ()), 0), ("house", -1))
        self.check(HOUSE, T, ("against", (1, (), ()), 7), ("house", -1))

    def test_world(self):
        for world in (2, -1, 10 ** 59, -10 ** 59):
            self.check(HOUSE, A, ("against", WEB, world), ("world", -1))
            self.check(HOUSE, T, ("against", WEB, world), ("world", -1))

    def test_holds(self):
        self.check(HOUSE, A, ("against", WEB, 1), ("holds", -1))
        self.check(HOUSE, T, ("against", WEB, 0), ("holds", -1))
        self.check(HOUSE, may("h", A), ("against", WEB, 0), ("holds", -1))
        self.check(HOUSE, must("h", A), ("against", WEB, 1), ("holds", -1))

    def test_very_many_worlds(self):
        web = (10 ** 59, (("h", ((0, 10 ** 58), (10 ** 58, 7))),), (("a", (7, 10 ** 58)),))
        free = house_of(())
        self.assertIs(lets_answered(free, A, ("against", web, 0)), False)
        self.assertIs(lets_answered(free, A, ("against", web, 10 ** 59 - 1)), False)
        self.assertIs(lets_answered(free, must("h", no(A)), ("against", web, 0)), False)
        for s, world in ((A, 7), (must("h", must("h", A)), 0), (must("h", A), 10 ** 58), (must("h", B), 5)):
            with self.assertRaises(NoPaper) as caught:
                lets_answered(free, s, ("against", web, world))
            self.assertEqual((caught.exception.word, caught.exception.at), ("holds", -1))

    def test_bent_ones(self):
        words, turns = set(), set()
        for k, house in enumerate(let_houses(380, 25) + [HOUSE]):
            hands = [hand for hand, rules in house[0]]
            sayings = some_sayings(381 + k, 6, hands=hands, most_atoms=3)
            sayings += [so(must(hands[0], both(A, B)), must(hands[0], B)), may(hands[-1], either(A, no(A)))]
            for j, s in enumerate(sayings):
                found = answered(house, s)
                self.check(house, s, found, None)
                for thing in bent_ones(1000 + 31 * k + j, [found], 60):
                    wanted = answer_refusal(house, s, thing)
                    words.add(wanted and wanted[0])
                    turns.add((found[0], wanted and wanted[0]))
                    self.check(house, s, thing, wanted)
        self.assertLessEqual({None, "shape", "other", "house", "world", "holds", "from", "must", "row"}, words)
        self.assertLessEqual({("against", None), ("shown", None)}, turns)

    def test_of_another_saying(self):
        for s in some_sayings(383, 60, hands=("h", "k"), most_atoms=3):
            found = answered(HOUSE, s)
            for other in (no(s), both(s, A), T):
                self.check(HOUSE, other, found, answer_refusal(HOUSE, other, found))

    def test_by_name_in_another_order(self):
        self.assertIs(lets_answered(thing=("against", WEB, 0), saying=A, house=HOUSE), False)

    def test_what_is_handed_in_stays(self):
        thing = ["against", [1, [], []], 0]
        with self.assertRaises(NoPaper):
            lets_answered(HOUSE, A, thing)
        self.assertEqual(thing, ["against", [1, [], []], 0])
