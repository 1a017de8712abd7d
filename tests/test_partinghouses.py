"""[62], [64]: HOUSES parted by what is shown in one and doesn't hold in a WEB OF the other."""

import itertools
import unittest

from mustmays.answering import answered
from mustmays.beneath import is_beneath
from mustmays.errors import NoPaper
from mustmays.partinghouses import lets_parting, parting_of
from tests.judges import any_web, beneath, bent_ones, is_number, let_houses, showing_refusal, web_refusal
from tests.plainly import (
    A, B, F, LET_RULES, T, either, holds, house_of, houses_of_two, may, must, no, so, some_sayings)

SELF = so(must("h", A), A)
SHOWING = ((SELF, ("rule", "self", "h", A)),)
WEB = (2, (("h", ((0, 1), (1, 0))),), (("a", (1,)),))
ONE, OTHER = house_of(("self",)), house_of(("back", "step"))


def parting_refusal(one, other, x):
    """[64], in its order; None where it is let by."""
    if type(x) is not tuple or len(x) != 3 or not any_web(x[1]) or not is_number(x[2]):
        return ("shape", -1)
    found = showing_refusal(one, x[0])
    if found is not None:
        return found
    if web_refusal(other, x[1]) is not None:
        return ("house", -1)
    if not 0 <= x[2] < x[1][0]:
        return ("world", -1)
    return ("holds", -1) if holds(x[1], x[2], x[0][-1][0]) else None


class LetsParting(unittest.TestCase):
    def check(self, one, other, thing, wanted):
        self.assertEqual(parting_refusal(one, other, thing), wanted, (one, other, thing))
        if wanted is None:
            self.assertEqual(lets_parting(one, other, thing), thing[0][-1][0])
        else:
            with self.assertRaises(NoPaper) as caught:
                lets_parting(one, other, thing)
            self.assertEqual((caught.exception.word, caught.exception.at), wanted, (one, other, thing))
            self.assertIs(type(caught.exception.at), int)

    def test_let_by(self):
        self.check(ONE, OTHER, (SHOWING, WEB, 0), None)
        self.check(ONE, OTHER, (((T, ("from", ())),) + SHOWING, WEB, 0), None)

    def test_shape(self):
        for thing in (
                None, (), (SHOWING, WEB), (SHOWING, WEB, 0, 0), [SHOWING, WEB, 0], (SHOWING, WEB, True),
                (SHOWING, WEB, None), (SHOWING, list(WEB), 0), (SHOWING, 0, WEB), (WEB, SHOWING, 0), (SHOWING, None, 0),
                ("shown", SHOWING, 0), (SHOWING, (0, (), ()), 0), ("against", WEB), 7):
            self.check(ONE, OTHER, thing, ("shape", -1))

    def test_as_a_showing_is_refused(self):
        for thing, wanted in (
                (None, ("shape", -1)), ((), ("shape", -1)), (list(SHOWING), ("shape", -1)),
                (((must("x", A), ("from", ())),), ("hand", 0)), (((T, ("from", (0,))),), ("row", 0)),
                (((A, ("from", ())),), ("from", 0)), (SHOWING + ((A, ("must", 0, "h", 0)),), ("must", 1)),
                (((no(must("h", F)), ("rule", "step", "h", A)),), ("rule", 0)),
                (((SELF, ("bridge", "h", "h", A)),), ("bridge", 0)), (((SELF, ("by", "a")),), ("by", 0))):
            self.check(ONE, OTHER, (thing, WEB, 0), wanted)
            # Ahead of all that the WEB and the WORLD lack.
            self.check(ONE, OTHER, (thing, (1, (), ()), 7), wanted)

    def test_house(self):
        self.check(ONE, OTHER, (SHOWING, (1, (), ()), 0), ("house", -1))
        self.check(ONE, OTHER, (SHOWING, (2, (("h", ((0, 1),)),), ()), 5), ("house", -1))
        self.check(ONE, OTHER, (SHOWING, (1, (("x", ((0, 0),)),), ()), 0), ("house", -1))
        # OF the one it is, but not OF the other.
        self.check(ONE, OTHER, (SHOWING, (2, (("h", ((0, 0), (0, 1), (1, 1))),), ()), 0), ("house", -1))

    def test_world(self):
        for world in (2, -1, 10 ** 59):
            self.check(ONE, OTHER, (SHOWING, WEB, world), ("world", -1))

    def test_holds(self):
        self.check(ONE, OTHER, (SHOWING, WEB, 1), ("holds", -1))
        self.check(ONE, OTHER, (((T, ("from", ())),), WEB, 0), ("holds", -1))

    def test_bent_ones(self):
        words = set()
        hands = (("h", ("on", "self")), ("k", ("on",)))
        for one, other in (
                (ONE, OTHER), (house_of(("on", "round")), house_of(("on",))), ((hands, (("h", "k"),)), (hands, ())),
                (house_of(("back", "step")), house_of(("back",)))):
            found = parting_of(one, other)
            shown = answered(one, so(found[0][-1][0], found[0][-1][0]))[1]
            for thing in bent_ones(980, [found, (found[0] + shown, found[1], found[2])], 1200):
                wanted = parting_refusal(one, other, thing)
                words.add(wanted and wanted[0])
                self.check(one, other, thing, wanted)
        self.assertLessEqual({None, "shape", "rule", "from", "house", "world", "holds", "bridge"}, words)

    def test_by_name_in_another_order(self):
        self.assertEqual(lets_parting(thing=(SHOWING, WEB, 0), other=OTHER, one=ONE), SELF)

    def test_what_is_handed_in_stays(self):
        thing = [[], [1, [], []], 0]
        for _ in range(2):
            with self.assertRaises(NoPaper):
                lets_parting(ONE, OTHER, thing)
        self.assertEqual(thing, [[], [1, [], []], 0])


class PartingOf(unittest.TestCase):
    def check(self, one, other, plainly_too=True):
        """By the words of what is told: None just where the one is BENEATH the other."""
        found = parting_of(one, other)
        self.assertEqual(found is None, beneath(one, other), (one, other))
        self.assertEqual(found is None, is_beneath(one, other))
        if found is not None:
            self.assertIs(type(found), tuple)
            self.assertEqual(lets_parting(one, other, found), found[0][-1][0])
            if plainly_too:
                self.assertIsNone(parting_refusal(one, other, found), (one, other, found))
        return found

    def test_beneath_one_another_both_ways(self):
        for one, other in (
                (("back", "on", "self"), ("on", "round", "self")), (("self",), ("self", "step")),
                (("back", "on", "step"), ("on", "round", "self")), (("on",), ("on",)),
                (("back", "on"), ("back", "on", "round"))):
            self.assertIsNone(self.check(house_of(one), house_of(other)))
            self.assertIsNone(self.check(house_of(other), house_of(one)))

    def test_one_hand(self):
        for one, other in itertools.product(LET_RULES, repeat=2):
            self.check(house_of(one), house_of(other))

    def test_by_each_rule(self):
        for rules, other in (
                (("step",), ("back", "on", "round")), (("self",), ("on", "round", "step")), (("on",), ("back", "self")),
                (("back",), ("on", "self")), (("on", "round"), ("on", "self")), (("ends", "on"), ("on",)),
                (("step",), ("ends", "on"))):
            self.assertIsNotNone(self.check(house_of(rules), house_of(other)))

    def test_by_a_bridge(self):
        hands = (("h", ("on",)), ("k", ("on",)))
        found = self.check((hands, (("h", "k"),)), (hands, ()))
        self.assertEqual(found[0][-1][1][0], "bridge")
        self.assertIsNotNone(self.check((hands, (("h", "k"),)), (hands, (("k", "h"),))))
        self.assertIsNone(self.check((hands, ()), (hands, (("h", "k"),))))
        three = (("h", ()), ("j", ()), ("k", ()))
        one = (three, (("h", "j"), ("h", "k"), ("j", "k")))
        self.assertIsNone(self.check(one, (three, (("h", "j"), ("j", "k")))))
        self.assertIsNotNone(self.check(one, (three, (("h", "j"), ("h", "k")))))

    def test_to_a_hand_that_has_ends(self):
        hands = (("h", ()), ("k", ()))
        self.assertIsNotNone(self.check((hands, (("h", "k"),)), ((("h", ()), ("k", ("ends", "on"))), ())))
        self.assertIsNotNone(self.check((hands, (("h", "k"),)), ((("h", ("ends", "on")), ("k", ())), ())))

    def test_by_a_hands_rule_ahead_of_a_bridge(self):
        one = ((("h", ("on", "self")), ("k", ("self",))), (("h", "k"),))
        other = ((("h", ("on", "self")), ("k", ("step",))), ())
        self.assertIsNotNone(self.check(one, other))

    def test_houses_of_two(self):
        houses = list(houses_of_two())
        kinds = []
        for k, one in enumerate(houses[::6]):
            for j, other in enumerate(houses[k % 29::29]):
                kinds.append(self.check(one, other, plainly_too=(k + j) % 9 == 0) is None)
        self.assertLess(kinds.count(False), len(kinds))
        self.assertGreater(kinds.count(True), 50)

    def test_houses_of_three(self):
        houses = let_houses(981, 120)
        kinds = []
        for one, other in itertools.product(houses, repeat=2):
            if set(dict(one[0])) <= set(dict(other[0])):
                kinds.append(self.check(one, other, plainly_too=len(kinds) % 9 == 0) is None)
        self.assertGreater(kinds.count(True), 100)
        self.assertGreater(kinds.count(False), 1000)

    def test_beneath_all_that_is_shown_is_shown_there(self):
        # [62]: and of houses that aren't beneath something isn't.
        sayings = some_sayings(982, 25, hands=("h", "k"), most_atoms=3)
        sayings += [so(must("h", A), must("k", A)), so(must("k", A), A), may("h", T), so(must("h", B), B)]
        houses = list(houses_of_two())[::83]
        for one, other in itertools.product(houses, repeat=2):
            if is_beneath(one, other):
                for s in sayings:
                    if answered(one, s)[0] == "shown":
                        self.assertEqual(answered(other, s)[0], "shown", (one, other, s))
            else:
                s = parting_of(one, other)[0][-1][0]
                self.assertEqual((answered(one, s)[0], answered(other, s)[0]), ("shown", "against"))

    def test_by_name_in_another_order(self):
        self.assertIsNone(parting_of(other=house_of(("self",)), one=house_of(("step",))))
        self.assertIsNotNone(parting_of(other=house_of(("step",)), one=house_of(("self",))))

    def test_of_more_hands(self):
        other = ((("a", ()), ("h", ("step",))), ())
        found = self.check(house_of(("self",)), other)
        self.assertEqual(found[0][-1][0], SELF)
        self.assertFalse(holds(found[1], found[2], SELF))
        self.assertTrue(holds(found[1], found[2], either(A, must("h", A))))
