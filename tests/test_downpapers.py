"""[47]: DOWN PAPERS."""

import unittest

from mustmays.downpapers import down_paper
from mustmays.errors import NoHand
from tests import plainly
from tests.papers import is_down_paper, plain_paper
from tests.plainly import (
    A, B, F, LET_RULES, T, both, either, hands_in, house_of, houses_of_two, may, must, no, so, some_sayings)

NO, YES = False, True


class DownPapers(unittest.TestCase):
    def test_without_atoms(self):
        self.assertEqual(down_paper(house_of(("step",)), T), ())
        self.assertIsNone(down_paper(house_of(("step",)), F))

    def test_nothing_goes(self):
        self.assertEqual(down_paper(house_of(()), either(A, no(A))), ())
        self.assertIsNone(down_paper(house_of(()), A))

    def test_self(self):
        m = must("h", A)
        self.assertEqual(down_paper(house_of(("self",)), so(m, A)), (((NO, YES), ("self", m)),))
        self.assertIsNone(down_paper(house_of(()), so(m, A)))

    def test_self_is_of_the_first_atom(self):
        m, n = must("h", A), must("k", A)
        house = ((("h", ("self",)), ("k", ("self",))), ())
        self.assertEqual(down_paper(house, so(both(m, n), A)), (
            ((NO, NO, YES), ("self", n)), ((NO, YES, NO), ("self", m)), ((NO, YES, YES), ("self", m))))

    def test_must(self):
        m = must("h", T)
        self.assertEqual(down_paper(house_of(()), m), (((NO,), ("must", m)),))

    def test_must_goes_ahead_of_step(self):
        # Both may be so: [h]T fails nowhere, and for k none of those left FITS.
        house = ((("h", ()), ("k", ("step",))), ())
        m, n = must("h", T), must("k", F)
        s = both(m, no(n))
        # ATOMS: m, n.
        self.assertEqual(down_paper(house, s), (
            ((NO, NO), ("must", m)), ((NO, YES), ("must", m)), ((YES, YES), ("step", "k"))))

    def test_step(self):
        m = must("h", F)
        self.assertEqual(down_paper(house_of(("step",)), no(m)), (((YES,), ("step", "h")),))
        self.assertIsNone(down_paper(house_of(()), no(m)))

    def test_step_of_the_first_hand_that_has_it(self):
        house = ((("h", ("step",)), ("k", ("step",))), (("h", "k"),))
        self.assertEqual(down_paper(house, no(must("h", F))), (((YES,), ("step", "h")),))
        house = ((("h", ()), ("k", ("step",))), (("h", "k"),))
        self.assertEqual(down_paper(house, no(must("h", F))), (((YES,), ("step", "k")),))

    def test_ends(self):
        s = so(must("h", so(must("h", A), A)), must("h", A))
        paper = down_paper(house_of(("ends", "on")), s)
        self.assertTrue(is_down_paper(house_of(("ends", "on")), s, paper))
        self.assertIsNone(down_paper(house_of(("on",)), s))

    def test_bridges(self):
        house = ((("h", ()), ("k", ())), (("h", "k"),))
        s = so(must("h", A), must("k", A))
        n = must("k", A)
        self.assertEqual(down_paper(house, s), (((NO, YES, NO), ("must", n)), ((YES, YES, NO), ("must", n))))
        self.assertIsNone(down_paper(house, so(must("k", A), must("h", A))))

    def test_all_that_go_stand_in_it(self):
        # The SAYING is true in each SORT, but of [h]T those that have it false go all the same.
        s = either(must("h", T), no(must("h", T)))
        self.assertEqual(down_paper(house_of(()), s), (((NO,), ("must", must("h", T))),))

    def check(self, house, s):
        paper = down_paper(house, s)
        self.assertEqual(paper, plain_paper(house, s))
        if paper is None:
            return False
        self.assertIs(type(paper), tuple)
        self.assertTrue(is_down_paper(house, s, paper))
        return True

    def test_one_hand(self):
        some_down = 0
        for seed, rules in enumerate(LET_RULES):
            for s in some_sayings(100 + seed, 10, hands=("h",), most_atoms=3):
                some_down += self.check(house_of(rules), s)
        self.assertGreater(some_down, 20)

    def test_schemes(self):
        # What each of the RULES makes so, in each HOUSE.
        for rules in LET_RULES:
            for s in (so(must("h", A), A), may("h", T), so(must("h", A), must("h", must("h", A))),
                      so(A, must("h", may("h", A))), so(may("h", A), must("h", may("h", A))),
                      so(must("h", so(must("h", A), A)), must("h", A)), so(must("h", both(A, B)), must("h", A))):
                self.check(house_of(rules), s)

    def test_two_hands(self):
        sayings = some_sayings(130, 500, most_atoms=3)
        sayings = [s for s in sayings if len(hands_in(s)) == 2 and len(plainly.atoms(s)) == 3]
        for k, house in enumerate(houses_of_two()):
            self.check(house, sayings[k % len(sayings)])
            self.check(house, so(must("h", A), must("k", A)))


class Hands(unittest.TestCase):
    def test_the_least_hand_that_is_not_there(self):
        with self.assertRaises(NoHand) as caught:
            down_paper(house_of(()), both(must("z", A), may("k", no(B)), must("h", A)))
        self.assertEqual(caught.exception.hand, "k")

    def test_by_name_in_another_order(self):
        self.assertEqual(down_paper(saying=T, house=house_of(())), ())

    def test_what_is_handed_in_stays(self):
        house = ((("h", ("self",)), ("k", ())), (("h", "k"),))
        s = so(must("h", A), A)
        self.assertEqual(down_paper(house, s), down_paper(house, s))
        self.assertEqual(house, ((("h", ("self",)), ("k", ())), (("h", "k"),)))
