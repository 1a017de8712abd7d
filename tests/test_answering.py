"""[58], [60]: of each SAYING just one of both: a SHOWING, or a WEB against it."""

import unittest

from mustmays.answering import answered
from mustmays.answerjudge import lets_answered
from mustmays.deciding import decided
from mustmays.ruleschemes import bridge_scheme, scheme_of
from tests import plainly
from tests.judges import answer_refusal, let_houses
from tests.plainly import (
    A, B, C, F, LET_RULES, T, both, either, holds, house_of, houses_of_two, may, must, no, so, some_sayings, webs_of)


class Answered(unittest.TestCase):
    def check(self, house, s, plainly_too=True):
        """By the words of what is told; the word itself."""
        found = answered(house, s)
        self.assertIs(type(found), tuple)
        self.assertIs(lets_answered(house, s, found), found[0] == "shown")
        if plainly_too:
            self.assertIsNone(answer_refusal(house, s, found), (house, s, found))
        if found[0] == "shown":
            self.assertLessEqual(len(found[1]), 400)
            self.assertNotIn("by", [why[0] for saying, why in found[1]])
        self.assertEqual(found[0] == "shown", decided(house, s)[0] == "down", (house, s))
        return found[0]

    def test_without_atoms(self):
        for house in (house_of(()), house_of(("step",)), house_of(("ends", "on"))):
            self.assertEqual(self.check(house, T), "shown")
            self.assertEqual(self.check(house, no(F)), "shown")
            self.assertEqual(self.check(house, F), "against")

    def test_letters(self):
        self.assertEqual(self.check(house_of(()), A), "against")
        self.assertEqual(self.check(house_of(()), so(both(A, B), either(B, C))), "shown")
        self.assertEqual(self.check(house_of(()), so(either(A, B), both(A, B))), "against")

    def test_musts_of_what_follows(self):
        for rules in LET_RULES:
            for s, word in (
                    (must("h", T), "shown"), (must("h", either(A, no(A))), "shown"),
                    (so(must("h", both(A, B)), both(must("h", A), must("h", B))), "shown"),
                    (so(both(must("h", A), must("h", B)), must("h", both(A, B))), "shown"),
                    (so(both(must("h", A), may("h", B)), may("h", both(A, B))), "shown"),
                    (so(may("h", either(A, B)), either(may("h", A), may("h", B))), "shown"),
                    (so(both(may("h", A), may("h", B)), may("h", both(A, B))), "against"),
                    (so(must("h", either(A, B)), either(must("h", A), must("h", B))), "against")):
                self.assertEqual(self.check(house_of(rules), s), word, (rules, s))

    def test_schemes_by_each_rules(self):
        made = {
            "step": lambda r: "step" in r or "self" in r,
            "self": lambda r: "self" in r or {"step", "back", "on"} <= r,
            "on": lambda r: "on" in r,
            "back": lambda r: "back" in r or {"self", "round"} <= r,
            "round": lambda r: "round" in r or {"back", "on"} <= r,
            "ends": lambda r: "ends" in r,
        }
        for rules in LET_RULES:
            for word, is_made in made.items():
                for p in (A, both(A, must("h", B)), no(must("h", A))):
                    s = scheme_of(house_of((word,)), "h", word, p)
                    if len(plainly.atoms(s)) > 5:
                        continue
                    wanted = "shown" if is_made(set(rules)) else "against"
                    if p == A:
                        self.assertEqual(self.check(house_of(rules), s), wanted, (rules, word))
                    elif wanted == "shown":
                        self.assertEqual(self.check(house_of(rules), s), wanted, (rules, word))

    def test_deep(self):
        self.assertEqual(self.check(house_of(("ends", "on")), so(may("h", A), may("h", both(A, must("h", no(A)))))),
            "shown")
        self.assertEqual(self.check(house_of(("on", "round")), so(may("h", must("h", A)), must("h", must("h", A)))),
            "shown")
        self.assertEqual(self.check(house_of(("back",)), so(may("h", must("h", A)), A)), "shown")
        self.assertEqual(self.check(house_of(()), must("h", must("h", must("h", so(A, A))))), "shown")
        self.assertEqual(self.check(house_of(("step",)), so(must("h", must("h", A)), may("h", may("h", A)))), "shown")
        self.assertEqual(self.check(house_of(("back", "on")), so(may("h", T), so(must("h", A), A))), "shown")

    def test_bridges_one_behind_another(self):
        house = ((("h", ("back", "on")), ("j", ("on",)), ("k", ("step",))), (("h", "j"), ("j", "k")))
        for s, word in (
                (so(must("h", A), must("k", A)), "shown"), (so(may("k", A), may("h", A)), "shown"),
                (so(must("k", A), must("h", A)), "against"), (may("h", T), "shown"), (so(must("h", A), A), "shown"),
                (so(must("j", A), A), "against"), (so(must("h", A), must("k", must("h", A))), "shown"),
                (so(no(must("h", A)), must("k", no(must("h", A)))), "shown"), (so(A, must("k", may("h", A))), "shown"),
                (so(must("j", A), must("k", must("j", A))), "shown"), (so(A, must("k", may("k", A))), "against"),
                (so(A, must("k", may("j", A))), "against")):
            self.assertEqual(self.check(house, s), word, s)
        for one, other in house[1]:
            self.assertEqual(self.check(house, bridge_scheme(house, one, other, may("k", A))), "shown")

    def test_one_hand(self):
        kinds = []
        for k, rules in enumerate(LET_RULES):
            for s in some_sayings(400 + k, 25, hands=("h",)):
                kinds.append(self.check(house_of(rules), s))
        self.assertGreater(kinds.count("shown"), 60)
        self.assertGreater(kinds.count("against"), 60)

    def test_two_hands(self):
        sayings = some_sayings(430, 300)
        for k, house in enumerate(houses_of_two()):
            self.check(house, sayings[k % 300], plainly_too=k % 3 == 0)

    def test_three_hands(self):
        for k, house in enumerate(let_houses(431, 150)):
            hands = [hand for hand, rules in house[0]]
            for s in some_sayings(432 + k, 3, hands=hands):
                self.check(house, s, plainly_too=k % 5 == 0)

    def test_many_that_are_shown(self):
        shown = 0
        for k, house in enumerate(let_houses(433, 120)):
            hands = [hand for hand, rules in house[0]]
            schemes = [
                scheme_of(house, hand, word, p) for hand, rules in house[0] for word in rules
                for p in some_sayings(600 + k, 2, hands=hands, most_atoms=2)]
            for s in schemes[:6]:
                for t in (s, must(hands[0], s), so(must(hands[-1], A), must(hands[-1], both(s, A)))):
                    if len(plainly.atoms(t)) <= 5:
                        self.assertEqual(self.check(house, t, plainly_too=False), "shown", (house, t))
                        shown += 1
        self.assertGreater(shown, 300)

    def test_five_atoms(self):
        house = ((("h", ("back", "on")), ("k", ("self",))), ())
        for s in (
                so(both(must("h", A), must("h", B), may("h", T)), both(A, B)),
                so(must("h", so(A, must("h", B))), so(may("h", T), so(A, B))),
                so(both(must("k", both(A, B, C)), must("h", C)), A)):
            self.assertLessEqual(len(plainly.atoms(s)), 6)
            self.assertEqual(self.check(house, s), "shown")
            self.assertEqual(self.check(house, no(s)), "against")

    def test_no_row_takes_more_than_sixteen_outer_atoms(self):
        # All that FITS must have, MUSTED at once, would be seventeen here.
        house = ((("h", ("on", "self")), ("j", ("back", "on", "step")), ("k", ("back", "on", "round"))), (("k", "j"),))
        s = may("k", so(must("k", both(either(A), must("k", A), may("k", A))), no(no(A))))
        self.assertEqual(self.check(house, s), "shown")

    def test_going_through_small_webs_finds_none_else(self):
        for k, rules in enumerate(LET_RULES):
            house = house_of(rules)
            webs = list(webs_of(house, 1, ("a",))) + list(webs_of(house, 2, ("a",)))
            for s in some_sayings(435 + k, 12, hands=("h",), words=("a",)):
                false = any(not holds(web, w, s) for web in webs for w in range(web[0]))
                if self.check(house, s) == "shown":
                    self.assertFalse(false, (house, s))

    def test_by_name_in_another_order(self):
        self.assertEqual(answered(saying=T, house=house_of(())), ("shown", ((T, ("from", ())),)))

    def test_what_is_handed_in_stays(self):
        house = ((("h", ("self",)), ("k", ())), (("h", "k"),))
        for s in (so(must("h", A), A), must("h", A)):
            self.assertEqual(answered(house, s)[0], answered(house, s)[0])
        self.assertEqual(house, ((("h", ("self",)), ("k", ())), (("h", "k"),)))
