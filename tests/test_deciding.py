"""[46], [52]: of each SAYING just one of both."""

import unittest

from mustmays.deciding import decided
from mustmays.errors import NoHand, NoMore
from tests import plainly
from tests.papers import is_against, is_down_paper
from tests.plainly import (
    A, B, C, F, LET_RULES, T, both, either, hands_in, holds, house_of, houses_of_two, may, must, no, so,
    some_sayings, webs_of)

HANDS = (((("h", ("on",)), ("j", ("self",)), ("k", ("step",)))), (("h", "k"),))


class Decided(unittest.TestCase):
    def check(self, house, s, **more):
        """By the words of what is told; the word itself."""
        told = decided(house, s, **more)
        self.assertIs(type(told), tuple)
        if told[0] == "against":
            _, web, world = told
            self.assertTrue(is_against(house, s, web, world), (house, s, told))
        else:
            word, paper = told
            self.assertEqual(word, "down")
            self.assertTrue(is_down_paper(house, s, paper), (house, s, told))
        return told[0]

    def test_without_atoms(self):
        self.assertEqual(decided(house_of(()), T), ("down", ()))
        for house in (house_of(()), house_of(("step",)), house_of(("ends", "on")), HANDS):
            self.assertEqual(self.check(house, T), "down")
            self.assertEqual(self.check(house, F), "against")
            self.assertEqual(self.check(house, no(T)), "against")

    def test_letters(self):
        for house in (house_of(()), HANDS):
            self.assertEqual(self.check(house, A), "against")
            self.assertEqual(self.check(house, either(A, no(A))), "down")
            self.assertEqual(self.check(house, so(both(A, B), C)), "against")

    def test_what_each_rule_makes_so(self):
        made = {
            "step": may("h", T),
            "self": so(must("h", A), A),
            "on": so(must("h", A), must("h", must("h", A))),
            "back": so(A, must("h", may("h", A))),
            "round": so(may("h", A), must("h", may("h", A))),
            "ends": so(must("h", so(must("h", A), A)), must("h", A)),
        }
        # By which sets of rules each is so: those that have the word, or make it.
        makes = {
            "step": lambda r: "step" in r or "self" in r,
            "self": lambda r: "self" in r or {"step", "back", "on"} <= r,
            "on": lambda r: "on" in r or {"self", "back"} <= r and "round" in r,
            "back": lambda r: "back" in r or {"self", "round"} <= r,
            "round": lambda r: "round" in r or {"back", "on"} <= r,
            "ends": lambda r: "ends" in r,
        }
        for rules in LET_RULES:
            for word, s in made.items():
                found = self.check(house_of(rules), s)
                self.assertEqual(found, "down" if makes[word](set(rules)) else "against", (rules, word))

    def test_must_of_what_follows(self):
        for rules in LET_RULES:
            self.assertEqual(self.check(house_of(rules), so(must("h", both(A, B)), must("h", A))), "down")
            self.assertEqual(self.check(house_of(rules), so(must("h", A), must("h", both(A, B)))), "against")
            self.assertEqual(self.check(house_of(rules), must("h", T)), "down")

    def test_hands_and_bridges(self):
        self.assertEqual(self.check(HANDS, so(must("h", A), must("k", A))), "down")
        self.assertEqual(self.check(HANDS, so(must("k", A), must("h", A))), "against")
        self.assertEqual(self.check(HANDS, may("h", T)), "down")
        self.assertEqual(self.check(HANDS, so(must("j", A), A)), "down")
        self.assertEqual(self.check(HANDS, so(must("h", A), must("j", A))), "against")

    def test_going_through_all_small_webs_tells_none_else(self):
        for seed, rules in enumerate(LET_RULES):
            house = house_of(rules)
            webs = list(webs_of(house, 1, ("a",))) + list(webs_of(house, 2, ("a",)))
            for s in some_sayings(150 + seed, 12, hands=("h",), words=("a",)):
                false = any(not holds(web, w, s) for web in webs for w in range(web[0]))
                if self.check(house, s) == "down":
                    self.assertFalse(false, (house, s))

    def test_one_hand(self):
        kinds = set()
        for seed, rules in enumerate(LET_RULES):
            for s in some_sayings(180 + seed, 10, hands=("h",), most_atoms=4):
                kinds.add(self.check(house_of(rules), s))
        self.assertEqual(kinds, {"against", "down"})

    def test_two_hands(self):
        sayings = [s for s in some_sayings(210, 400, most_atoms=4) if len(hands_in(s)) == 2]
        for k, house in enumerate(houses_of_two()):
            self.check(house, sayings[k % len(sayings)])

    def test_five_atoms(self):
        five = so(must("h", both(A, B)), so(must("k", A), must("h", B)))
        self.assertEqual(len(plainly.atoms(five)), 5)
        for house in (((("h", ()), ("k", ())), ()), ((("h", ("on",)), ("k", ("self",))), ())):
            self.check(house, five)
            self.check(house, no(five))


class NoMoreThan(unittest.TestCase):
    def test_most(self):
        for s, many in ((T, 1), (A, 2), (must("h", A), 4), (either(A, B, C), 8)):
            for most in (many, many + 1, 10 ** 59):
                self.assertIn(decided(house_of(()), s, most=most)[0], ("against", "down"))
            for most in (many - 1, 0, -1, -10 ** 59):
                with self.assertRaises(NoMore) as caught:
                    decided(house_of(()), s, most=most)
                self.assertIs(caught.exception.many, most)

    def test_left_out_it_is_four_hundred(self):
        letters = [("letter", sign) for sign in "abcdefghi"]
        self.assertEqual(decided(house_of(()), either(no(A), *letters[:8]))[0], "down")
        with self.assertRaises(NoMore) as caught:
            decided(house_of(()), either(no(A), *letters))
        self.assertEqual(caught.exception.many, 400)

    def test_very_many_sorts(self):
        s = A
        for _ in range(58):
            s = must("h", s)
        with self.assertRaises(NoMore) as caught:
            decided(house_of(()), s, most=10 ** 9)
        self.assertEqual(caught.exception.many, 10 ** 9)

    def test_by_name_alone(self):
        with self.assertRaises(TypeError):
            decided(house_of(()), A, 400)


class Hands(unittest.TestCase):
    def test_the_least_hand_that_is_not_there(self):
        with self.assertRaises(NoHand) as caught:
            decided(house_of(()), both(must("z", A), may("k", no(B)), must("h", A)))
        self.assertEqual(caught.exception.hand, "k")

    def test_it_goes_ahead_of_no_more(self):
        with self.assertRaises(NoHand) as caught:
            decided(house_of(()), may("k", A), most=0)
        self.assertEqual(caught.exception.hand, "k")

    def test_by_name_in_another_order(self):
        self.assertEqual(decided(most=1, saying=T, house=house_of(())), ("down", ()))

    def test_what_is_handed_in_stays(self):
        house = ((("h", ("self",)), ("k", ())), (("h", "k"),))
        for s in (so(must("h", A), A), must("h", A)):
            self.assertEqual(decided(house, s)[0], decided(house, s)[0])
        self.assertEqual(house, ((("h", ("self",)), ("k", ())), (("h", "k"),)))
