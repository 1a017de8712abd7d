"""[61], [62]: RULES MADE, HOUSES BENEATH others."""

import itertools
import unittest

from mustmays.answering import answered
from mustmays.beneath import is_beneath, made_rules
from mustmays.errors import NoHand
from mustmays.ruleschemes import bridge_scheme, scheme_of
from tests.judges import WORDS, beneath, let_houses, made
from tests.plainly import A, LET_RULES, house_of, houses_of_two

THREE = ((("h", ()), ("j", ()), ("k", ("step",))), (("h", "j"), ("j", "k")))


class MadeRules(unittest.TestCase):
    def check(self, house, hand, wanted):
        self.assertEqual(made_rules(house, hand), wanted, (house, hand))
        self.assertEqual(made(house, hand), wanted, (house, hand))

    def test_one_hand(self):
        for rules, wanted in (
                ((), ()), (("step",), ("step",)), (("self",), ("self", "step")), (("on",), ("on",)),
                (("back",), ("back",)), (("ends", "on"), ("ends", "on")), (("back", "self"), ("back", "self", "step")),
                (("back", "step"), ("back", "step")), (("back", "on"), ("back", "on", "round")),
                (("on", "round"), ("on", "round")), (("on", "round", "step"), ("on", "round", "step")),
                (("on", "self"), ("on", "self", "step")),
                (("back", "on", "step"), ("back", "on", "round", "self", "step")),
                (("back", "on", "self"), ("back", "on", "round", "self", "step")),
                (("on", "round", "self"), ("back", "on", "round", "self", "step"))):
            self.check(house_of(rules), "h", wanted)

    def test_bridges_make_step_alone(self):
        self.check(THREE, "h", ("step",))
        self.check(THREE, "j", ("step",))
        self.check(THREE, "k", ("step",))
        house = ((("h", ("back", "on")), ("k", ("self",))), ())
        self.check(house, "h", ("back", "on", "round"))
        house = ((("h", ("back", "on", "self")), ("k", ("on", "self"))), (("h", "k"),))
        self.check(house, "k", ("on", "self", "step"))

    def test_step_by_a_bridge_makes_more(self):
        house = ((("h", ("back", "on")), ("k", ("step",))), (("h", "k"),))
        self.check(house, "h", ("back", "on", "round", "self", "step"))
        house = ((("h", ("back", "on")), ("j", ()), ("k", ("step",))), (("h", "j"), ("j", "k")))
        self.check(house, "h", ("back", "on", "round", "self", "step"))
        house = ((("h", ("back", "on", "self")), ("j", ("self",)), ("k", ())), (("h", "j"), ("h", "k")))
        self.check(house, "h", ("back", "on", "round", "self", "step"))

    def test_not_back_along_a_bridge(self):
        self.check(((("h", ("step",)), ("k", ())), (("h", "k"),)), "k", ())

    def test_no_hand(self):
        for hand in ("x", "on", "j"):
            with self.assertRaises(NoHand) as caught:
                made_rules(house_of(("on",)), hand)
            self.assertEqual(caught.exception.hand, hand)

    def test_many(self):
        for house in let_houses(340, 300):
            for hand, rules in house[0]:
                self.check(house, hand, made(house, hand))

    def test_made_are_just_those_that_are_shown(self):
        for house in [house_of(rules) for rules in LET_RULES] + let_houses(341, 60):
            for hand, rules in house[0]:
                told = made_rules(house, hand)
                for word in WORDS:
                    scheme = scheme_of((((hand, (word,)),), ()), hand, word, A)
                    self.assertEqual(answered(house, scheme)[0] == "shown", word in told, (house, hand, word))

    def test_by_name_in_another_order(self):
        self.assertEqual(made_rules(hand="h", house=THREE), ("step",))
        self.assertIs(type(made_rules(THREE, "h")), tuple)


class IsBeneath(unittest.TestCase):
    def check(self, one, other, wanted):
        self.assertIs(is_beneath(one, other), wanted, (one, other))
        self.assertIs(beneath(one, other), wanted, (one, other))

    def test_one_hand(self):
        self.check(house_of(()), house_of(("on",)), True)
        self.check(house_of(("on",)), house_of(()), False)
        self.check(house_of(("step",)), house_of(("self",)), True)
        self.check(house_of(("self",)), house_of(("step",)), False)
        self.check(house_of(("back",)), house_of(("on", "round", "self")), True)
        self.check(house_of(("ends", "on")), house_of(("on",)), False)
        self.check(house_of(("on",)), house_of(("ends", "on")), True)

    def test_both_ways(self):
        for some in (
                (("back", "on", "self"), ("on", "round", "self"), ("back", "on", "step"),
                 ("back", "on", "round", "self", "step")),
                (("self",), ("self", "step")), (("back", "on"), ("back", "on", "round")), (("on",), ("on",))):
            for one, other in itertools.product(some, repeat=2):
                self.check(house_of(one), house_of(other), True)

    def test_a_hand_more(self):
        one, other = house_of(("on",)), ((("h", ("on",)), ("k", ())), ())
        self.check(one, other, True)
        self.check(other, one, False)
        self.check(house_of((), "h"), house_of((), "k"), False)

    def test_bridges(self):
        two = (("h", ()), ("k", ()))
        self.check((two, (("h", "k"),)), (two, (("h", "k"),)), True)
        self.check((two, (("h", "k"),)), (two, (("k", "h"),)), False)
        self.check((two, (("h", "k"),)), (two, ()), False)
        self.check((two, ()), (two, (("h", "k"),)), True)

    def test_bridges_one_behind_the_other(self):
        house = ((("h", ()), ("k", ("step",))), (("h", "k"),))
        self.check(house, THREE, True)
        self.check(((("h", ()), ("k", ())), (("k", "h"),)), THREE, False)
        self.check(((("h", ("step",)),), ()), THREE, True)
        self.check(((("j", ("step",)),), ()), THREE, True)
        direct = (THREE[0], (("h", "j"), ("h", "k"), ("j", "k")))
        self.check(direct, THREE, True)
        self.check(THREE, direct, True)

    def test_many(self):
        houses = let_houses(342, 60)
        found = [is_beneath(one, other) for one, other in itertools.product(houses, repeat=2)]
        self.assertEqual(found, [beneath(one, other) for one, other in itertools.product(houses, repeat=2)])
        self.assertTrue(100 < sum(found) < 3000, sum(found))

    def test_beneath_are_just_those_whose_schemes_are_shown(self):
        houses = list(houses_of_two())[::9]
        kinds = set()
        for one, other in zip(houses, houses[3:] + houses[:3]):
            schemes = [scheme_of(one, hand, word, A) for hand, rules in one[0] for word in rules]
            schemes += [bridge_scheme(one, *bridge, A) for bridge in one[1]]
            shown = all(answered(other, s)[0] == "shown" for s in schemes)
            kinds.add(shown)
            self.assertIs(is_beneath(one, other), shown, (one, other))
        self.assertEqual(kinds, {False, True})

    def test_by_name_in_another_order(self):
        self.assertIs(is_beneath(other=house_of(("self",)), one=house_of(("step",))), True)
