"""[6], [7], [40], [41], [42]: which SORTS FIT which, and which are BAD."""

import itertools
import unittest

from mustmays.errors import NoHand
from mustmays.fitting import bad_sorts, does_fit
from mustmays.sorts import sort_at
from tests.plainly import (
    A, B, LET_RULES, T, all_sorts, both, either, fits, hands_in, house_of, houses_of_two, is_bad, is_of,
    may, must, no, some_sayings, webs_of)

MUST = must("h", A)
TRUTHS = (False, True)


def of_pairs(rules):
    """For which (a, m) of x and (a, m) of y, of ("must", "h", a), y FITS x by the RULES."""
    return {
        (x, y) for x in itertools.product(TRUTHS, repeat=2) for y in itertools.product(TRUTHS, repeat=2)
        if does_fit(house_of(rules), MUST, "h", x, y)}


def all_but(bar):
    pairs = itertools.product(itertools.product(TRUTHS, repeat=2), repeat=2)
    return {((a, m), (b, n)) for (a, m), (b, n) in pairs if not bar(a, m, b, n)}


class Fits(unittest.TestCase):
    def test_without_rules(self):
        self.assertEqual(of_pairs(()), all_but(lambda a, m, b, n: m and not b))

    def test_rules_that_turn_nothing(self):
        self.assertEqual(of_pairs(("self", "step")), of_pairs(()))
        self.assertEqual(of_pairs(("ends", "on")), of_pairs(("on",)))

    def test_on(self):
        self.assertEqual(of_pairs(("on",)), all_but(lambda a, m, b, n: m and not (b and n)))

    def test_round(self):
        self.assertEqual(of_pairs(("on", "round")),
                         all_but(lambda a, m, b, n: (m and not (b and n)) or (n and not m)))

    def test_back(self):
        self.assertEqual(of_pairs(("back",)),
                         all_but(lambda a, m, b, n: (m and not b) or (n and not a)))

    def test_back_and_on(self):
        self.assertEqual(of_pairs(("back", "on")),
                         all_but(lambda a, m, b, n: (m and not (b and n)) or (n and not (a and m))))

    def test_bridges_one_behind_another(self):
        s = both(must("a", A), must("b", A), must("c", A))
        # ATOMS: the letter, then those of a, b, c.
        house = ((("a", ()), ("b", ()), ("c", ())), (("a", "b"), ("b", "c")))
        for x in all_sorts(s):
            for y in all_sorts(s):
                lacks = not y[0]
                self.assertIs(does_fit(house, s, "a", x, y), not (x[1] and lacks))
                self.assertIs(does_fit(house, s, "b", x, y), not ((x[1] or x[2]) and lacks))
                self.assertIs(does_fit(house, s, "c", x, y), not ((x[1] or x[2] or x[3]) and lacks))

    def test_bridges_to_hands_that_are_not_in_the_saying(self):
        house = ((("a", ("on",)), ("b", ())), (("a", "b"),))
        s = must("a", A)
        self.assertIs(does_fit(house, s, "b", (True, True), (True, False)), False)
        self.assertIs(does_fit(house, s, "b", (True, True), (True, True)), True)

    def test_a_hand_without_atoms_and_bridges(self):
        house = ((("h", ("back", "on", "self")), ("k", ("back", "on", "round", "self", "step"))), ())
        for x in all_sorts(MUST):
            for y in all_sorts(MUST):
                self.assertIs(does_fit(house, MUST, "k", x, y), True)

    def test_no_atoms(self):
        self.assertIs(does_fit(house_of(("on", "round")), T, "h", (), ()), True)

    def test_may_is_read_as_must(self):
        # ATOMS of <h>a: a, [h]~a.
        house = house_of(())
        self.assertIs(does_fit(house, may("h", A), "h", (False, True), (True, False)), False)
        self.assertIs(does_fit(house, may("h", A), "h", (False, True), (False, False)), True)

    def test_many_houses(self):
        for house in houses_of_two():
            for s in (both(must("h", A), must("k", no(A))), must("h", may("k", A)), must("h", must("h", A))):
                for hand in ("h", "k"):
                    for x in all_sorts(s):
                        for y in all_sorts(s):
                            self.assertIs(does_fit(house, s, hand, x, y), fits(house, s, hand, x, y))

    def test_where_steps_lead_sorts_fit_and_none_is_bad(self):
        for rules in LET_RULES:
            house = house_of(rules)
            for s in (may("h", must("h", A)), both(must("h", A), must("h", must("h", no(A))))):
                for web in webs_of(house, 2, ("a",)):
                    for hand, pairs in web[1]:
                        for x, y in pairs:
                            self.assertIs(
                                does_fit(house, s, hand, sort_at(web, s, x), sort_at(web, s, y)), True)
                    for world in range(2):
                        self.assertNotIn(sort_at(web, s, world), bad_sorts(house, s))

    def test_where_steps_lead_by_bridges(self):
        house = ((("h", ("on",)), ("k", ())), (("h", "k"),))
        s = both(must("h", A), must("k", A))
        webs = list(webs_of(house, 2, ("a",)))
        self.assertTrue(webs and all(is_of(house, web) for web in webs))
        for web in webs:
            for hand, pairs in web[1]:
                for x, y in pairs:
                    self.assertIs(does_fit(house, s, hand, sort_at(web, s, x), sort_at(web, s, y)), True)


class Bad(unittest.TestCase):
    def test_bad(self):
        self.assertEqual(bad_sorts(house_of(("self",)), MUST), ((False, True),))
        self.assertEqual(bad_sorts(house_of(("back", "on", "round", "step")), MUST), ())
        self.assertEqual(bad_sorts(house_of(("self",)), A), ())
        self.assertEqual(bad_sorts(house_of(("self",)), T), ())
        self.assertEqual(bad_sorts(house_of(("on", "self")), may("h", A)), ((True, True),))

    def test_just_the_hands_that_have_self(self):
        house = ((("h", ("self",)), ("k", ())), ())
        s = both(must("h", A), must("k", A))
        self.assertEqual(bad_sorts(house, s), ((False, True, False), (False, True, True)))

    def test_bridges_turn_nothing(self):
        # k's STEPS are h's, so h leads from each WORLD to itself, but h has no "self".
        house = ((("h", ()), ("k", ())), (("h", "k"),))
        self.assertEqual(bad_sorts(house, both(must("h", A), must("k", A))), ())

    def test_many(self):
        for house in (house_of(("self",)), house_of(("on", "self", "step")), house_of(("on",))):
            for s in some_sayings(15, 40, hands=("h",)):
                self.assertEqual(bad_sorts(house, s), tuple(x for x in all_sorts(s) if is_bad(house, s, x)))


class Hands(unittest.TestCase):
    def refused(self, hand, call, *things):
        with self.assertRaises(NoHand) as caught:
            call(*things)
        self.assertEqual(caught.exception.hand, hand)

    def test_the_hand_asked_for(self):
        self.refused("k", does_fit, house_of(()), MUST, "k", (True, True), (True, True))
        self.refused("k", does_fit, house_of(()), T, "k", (), ())

    def test_the_least_hand_in_the_saying_goes_ahead(self):
        s = both(may("z", A), must("k", B), MUST)
        sort = (False,) * 5
        self.refused("k", does_fit, house_of(()), s, "a", sort, sort)
        self.refused("k", does_fit, house_of(()), s, "h", sort, sort)
        self.refused("k", bad_sorts, house_of(()), s)
        self.refused("z", bad_sorts, house_of(()), may("z", A))
        self.refused("z", does_fit, house_of(()), may("z", A), "a", (False,) * 2, (False,) * 2)

    def test_the_very_hand(self):
        hand = "".join(["k", "k"])
        with self.assertRaises(NoHand) as caught:
            does_fit(house_of(()), MUST, hand, (True, True), (True, True))
        self.assertIs(caught.exception.hand, hand)

    def test_hands_that_are_there_are_not_refused(self):
        for s in some_sayings(16, 30, hands=("h",)):
            self.assertLessEqual(set(hands_in(s)), {"h"})
            self.assertIs(type(bad_sorts(house_of(()), s)), tuple)

    def test_by_name_in_another_order(self):
        house = house_of(("on",))
        self.assertIs(does_fit(other=(True, False), one=(True, True), hand="h", saying=MUST, house=house), False)
        self.assertIs(does_fit(one=(True, False), other=(True, True), hand="h", saying=MUST, house=house), True)
        self.assertEqual(bad_sorts(saying=MUST, house=house_of(("self",))), ((False, True),))

    def test_what_is_handed_in_stays(self):
        house = ((("h", ("on",)), ("k", ())), (("h", "k"),))
        for _ in range(2):
            self.assertIs(does_fit(house, MUST, "k", (True, True), (True, False)), False)
            self.assertEqual(bad_sorts(house, either(MUST, A)), ())
        self.assertEqual(house, ((("h", ("on",)), ("k", ())), (("h", "k"),)))
