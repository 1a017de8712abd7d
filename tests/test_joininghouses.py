"""[65], [66]: HOUSES JOINED, and their HANDS alone; WEBS put beside other HANDS, and of some HANDS alone."""

import itertools
import unittest

from mustmays.answering import answered
from mustmays.errors import NoHand, NoRules
from mustmays.joininghouses import house_of_hands, joined_house, web_beside, web_of_hands
from mustmays.rulekinds import lets_draft
from mustmays.webchecker import lets_web
from tests.judges import any_house, draft_refusal, let_houses, web_refusal
from tests.plainly import (
    A, LET_RULES, holds, house_of, is_web, must, so, some_sayings, some_webs, steps, webs_of)


def renamed(house, names):
    """The house with other hands, as a dict tells."""
    hands = tuple(sorted((names[hand], rules) for hand, rules in house[0]))
    return (hands, tuple(sorted((names[one], names[other]) for one, other in house[1])))


class JoinedHouse(unittest.TestCase):
    def refuse(self, one, other, hand):
        with self.assertRaises(NoRules) as caught:
            joined_house(one, other)
        self.assertEqual((caught.exception.word, caught.exception.hand), ("hand", hand))

    def test_joined(self):
        self.assertEqual(joined_house(house_of(("on",)), house_of(("self",), "k")),
                         ((("h", ("on",)), ("k", ("self",))), ()))
        self.assertEqual(joined_house(house_of(("self",), "k"), house_of(("on",))),
                         ((("h", ("on",)), ("k", ("self",))), ()))

    def test_bridges(self):
        one = ((("b", ()), ("d", ())), (("d", "b"),))
        other = ((("a", ("on",)), ("c", ())), (("a", "c"),))
        wanted = ((("a", ("on",)), ("b", ()), ("c", ()), ("d", ())), (("a", "c"), ("d", "b")))
        self.assertEqual(joined_house(one, other), wanted)
        self.assertEqual(joined_house(other, one), wanted)

    def test_a_hand_in_both(self):
        one = ((("a", ()), ("c", ("on",)), ("h", ())), ())
        self.refuse(one, house_of(("self",), "c"), "c")
        self.refuse(house_of((), "c"), one, "c")
        self.refuse(one, ((("c", ("on",)), ("h", ())), ()), "c")
        self.refuse(one, one, "a")
        self.refuse(one, ((("b", ()), ("h", ())), ()), "h")

    def test_many(self):
        for one, other in zip(let_houses(730, 60), let_houses(731, 60)):
            other = renamed(other, {"h": "a", "j": "i", "k": "z"})
            found = joined_house(one, other)
            self.assertTrue(any_house(found))
            self.assertIsNone(draft_refusal(found))
            self.assertIs(lets_draft(found), True)
            self.assertEqual(dict(found[0]), {**dict(one[0]), **dict(other[0])})
            self.assertEqual(set(found[1]), set(one[1]) | set(other[1]))
            self.assertEqual(joined_house(other, one), found)
            self.assertEqual(house_of_hands(found, tuple(hand for hand, rules in one[0])), one)
            self.assertEqual(house_of_hands(found, tuple(hand for hand, rules in other[0])), other)

    def test_joined_again(self):
        house = house_of(("on",), "a")
        for hand in "bcdefg":
            house = joined_house(house, house_of(("self",), hand))
        self.assertEqual([hand for hand, rules in house[0]], list("abcdefg"))
        self.assertEqual(answered(house, so(must("g", A), A))[0], "shown")

    def test_by_name_in_another_order(self):
        self.assertEqual(joined_house(other=house_of((), "a"), one=house_of(("on",))),
                         ((("a", ()), ("h", ("on",))), ()))


class HouseOfHands(unittest.TestCase):
    HOUSE = ((("a", ("on", "self")), ("b", ("on",)), ("c", ("ends", "on"))), (("a", "b"),))

    def test_of_hands(self):
        self.assertEqual(house_of_hands(self.HOUSE, ("a", "b", "c")), self.HOUSE)
        self.assertEqual(house_of_hands(self.HOUSE, ("a", "b")), (self.HOUSE[0][:2], (("a", "b"),)))
        self.assertEqual(house_of_hands(self.HOUSE, ("a",)), (self.HOUSE[0][:1], ()))
        self.assertEqual(house_of_hands(self.HOUSE, ("b", "c")), (self.HOUSE[0][1:], ()))

    def test_bridges_between_them_alone(self):
        house = ((("a", ()), ("b", ()), ("c", ())), (("a", "b"), ("a", "c"), ("b", "c")))
        self.assertEqual(house_of_hands(house, ("a", "c")), ((("a", ()), ("c", ())), (("a", "c"),)))
        house = (house[0], (("a", "b"), ("b", "c")))
        self.assertEqual(house_of_hands(house, ("a", "c")), ((("a", ()), ("c", ())), ()))

    def test_a_hand_that_is_not_there(self):
        for hands, hand in ((("x",), "x"), (("a", "x"), "x"), (("aa", "b"), "aa"), (("a", "d", "e"), "d")):
            with self.assertRaises(NoHand) as caught:
                house_of_hands(self.HOUSE, hands)
            self.assertEqual(caught.exception.hand, hand)

    def test_by_name_in_another_order(self):
        self.assertEqual(house_of_hands(hands=("b",), house=self.HOUSE), ((("b", ("on",)),), ()))


class WebBeside(unittest.TestCase):
    def test_beside(self):
        web = (2, (("h", ((0, 1),)),), (("a", (1,)),))
        one = house_of(("on",))
        self.assertEqual(web_beside(one, house_of((), "k"), web),
                         (2, (("h", ((0, 1),)), ("k", ((0, 0), (1, 1)))), (("a", (1,)),)))
        self.assertEqual(web_beside(one, house_of(("self",), "g"), web),
                         (2, (("g", ((0, 0), (1, 1))), ("h", ((0, 1),))), (("a", (1,)),)))

    def test_hands_with_ends_have_no_steps(self):
        web = (2, (("h", ((0, 1),)),), ())
        other = ((("a", ("ends", "on")), ("b", ("step",)), ("z", ("ends", "on"))), ())
        self.assertEqual(web_beside(house_of(()), other, web), (2, (("b", ((0, 0), (1, 1))), ("h", ((0, 1),))), ()))
        self.assertEqual(web_beside(house_of(()), house_of(("ends", "on"), "a"), web), web)

    def test_a_web_without_steps(self):
        self.assertEqual(web_beside(house_of(()), house_of((), "k"), (1, (), ())), (1, (("k", ((0, 0),)),), ()))

    def test_of_the_joined_house(self):
        for rules in LET_RULES:
            one = house_of(rules)
            for web in webs_of(one, 2, ("a",)):
                for other in [house_of(others, "k") for others in LET_RULES[::3] + LET_RULES[-1:]]:
                    found = web_beside(one, other, web)
                    self.assertTrue(is_web(found))
                    self.assertIs(lets_web(joined_house(one, other), found), True)
                    self.assertEqual(web_of_hands(found, ("h",)), web)

    def test_bridges_of_both(self):
        for one, other in zip(let_houses(732, 80), let_houses(733, 80)):
            other = renamed(other, {"h": "a", "j": "i", "k": "z"})
            for s in some_sayings(734, 3, hands=[hand for hand, rules in one[0]]):
                found = answered(one, s)
                if found[0] == "against":
                    web = web_beside(one, other, found[1])
                    self.assertIsNone(web_refusal(joined_house(one, other), web))
                    self.assertFalse(holds(web, found[2], s))
                    hands = [hand for hand, rules in one[0]]
                    self.assertEqual(web_of_hands(web, tuple(hands)), found[1])

    def test_by_name_in_another_order(self):
        self.assertEqual(web_beside(web=(1, (), ()), other=house_of((), "k"), one=house_of(())),
                         (1, (("k", ((0, 0),)),), ()))


class WebOfHands(unittest.TestCase):
    WEB = (3, (("a", ((0, 1),)), ("b", ((1, 2),)), ("c", ((0, 0),))), (("p", (0, 2)), ("q", (1,))))

    def test_of_hands(self):
        self.assertEqual(web_of_hands(self.WEB, ("a", "b", "c")), self.WEB)
        self.assertEqual(web_of_hands(self.WEB, ("b",)), (3, (("b", ((1, 2),)),), self.WEB[2]))
        self.assertEqual(web_of_hands(self.WEB, ("a", "c")), (3, (self.WEB[1][0], self.WEB[1][2]), self.WEB[2]))

    def test_none(self):
        self.assertEqual(web_of_hands(self.WEB, ()), (3, (), self.WEB[2]))
        self.assertEqual(web_of_hands(self.WEB, ("x", "y")), (3, (), self.WEB[2]))

    def test_of_the_one(self):
        # A WEB of the JOINED HOUSE, of the one's HANDS alone, is one OF the one.
        joined = ((("h", ("on",)), ("k", ("self",))), ())
        for web in itertools.islice(webs_of(joined, 2, ("a",)), 200):
            self.assertIs(lets_web(house_of(("on",)), web_of_hands(web, ("h",))), True)
            self.assertEqual(steps(web_of_hands(web, ("h",)), "h"), steps(web, "h"))

    def test_sayings_of_these_hands_hold_as_before(self):
        for web in some_webs(735, 60):
            for s in some_sayings(736, 5, hands=("h",), with_told=True):
                for world in range(web[0]):
                    self.assertEqual(holds(web_of_hands(web, ("h",)), world, s), holds(web, world, s))

    def test_by_name_in_another_order(self):
        self.assertEqual(web_of_hands(hands=("b",), web=self.WEB), (3, (("b", ((1, 2),)),), self.WEB[2]))


class ShownInBoth(unittest.TestCase):
    def test_a_saying_of_the_one_is_shown_just_where_it_is_in_the_joined_one(self):
        words = []
        for k, (one, other) in enumerate(zip(let_houses(737, 60), let_houses(738, 60))):
            other = renamed(other, {"h": "a", "j": "i", "k": "z"})
            joined = joined_house(one, other)
            hands = [hand for hand, rules in one[0]]
            sayings = some_sayings(739 + k, 3, hands=hands, most_atoms=3)
            sayings += [so(must(hands[0], A), A), so(must(hands[-1], A), must(hands[-1], must(hands[-1], A)))]
            for s in sayings:
                words.append(answered(one, s)[0])
                self.assertEqual(answered(joined, s)[0], words[-1], (one, other, s))
        self.assertTrue(50 < words.count("shown") < 280)
