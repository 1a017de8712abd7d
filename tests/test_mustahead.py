"""[68]: a "must" ahead, and what is behind a WORLD."""

import unittest

from mustmays.answering import answered
from mustmays.errors import NoWorld
from mustmays.mustahead import must_ahead, web_behind
from tests.plainly import (
    A, B, F, cut, has_rule, holds, house_of, is_web, may, must, no, so, some_sayings, some_webs, steps, told, webs_of)

WEB = (4, (("h", ((0, 1), (0, 3), (1, 1), (3, 1))), ("k", ((1, 3), (2, 0)))), (("a", (0, 3)), ("b", (2,))))


class MustAhead(unittest.TestCase):
    def test_must_ahead(self):
        self.assertEqual(must_ahead(A, "h"), must("h", A))
        self.assertEqual(must_ahead(must("h", F), "h"), must("h", must("h", F)))
        self.assertEqual(must_ahead(told(A, B), "k"), must("k", told(A, B)))
        self.assertEqual(must_ahead(hand="k", saying=may("h", A)), must("k", may("h", A)))

    def test_shown_in_three_houses_alike(self):
        one = house_of(("back", "on", "self"))
        words = []
        sayings = some_sayings(740, 120, hands=("h",), most_atoms=3)
        sayings += [so(must("h", A), A), so(A, must("h", may("h", A))), so(may("h", A), must("h", may("h", A))), A,
                    so(may("h", must("h", A)), A), may("h", so(A, A)), so(A, must("h", A))]
        for s in sayings:
            words.append(answered(one, s)[0])
            for rules in (("on", "round"), ("on", "round", "step")):
                self.assertEqual(answered(house_of(rules), must_ahead(s, "h"))[0], words[-1], (rules, s))
        self.assertGreater(words.count("shown"), 10)
        self.assertGreater(words.count("against"), 10)

    def test_not_so_without_the_must(self):
        self.assertEqual(answered(house_of(("on", "round")), so(must("h", A), A))[0], "against")
        self.assertEqual(answered(house_of(("on", "round")), must_ahead(so(must("h", A), A), "h"))[0], "shown")


class WebBehind(unittest.TestCase):
    def test_behind(self):
        self.assertEqual(web_behind(WEB, "h", 0), (2, (("h", ((0, 0), (1, 0))), ("k", ((0, 1),))), (("a", (1,)),)))
        self.assertEqual(web_behind(WEB, "h", 1), (1, (("h", ((0, 0),)),), ()))
        self.assertEqual(web_behind(WEB, "k", 1), (1, (), (("a", (0,)),)))
        self.assertEqual(web_behind(WEB, "k", 2), (1, (), (("a", (0,)),)))

    def test_one_step_alone(self):
        web = (3, (("h", ((0, 1), (1, 2))),), ())
        self.assertEqual(web_behind(web, "h", 0), (1, (), ()))

    def test_none(self):
        self.assertIsNone(web_behind(WEB, "h", 2))
        self.assertIsNone(web_behind(WEB, "k", 0))
        self.assertIsNone(web_behind(WEB, "x", 0))

    def test_no_world(self):
        for hand in ("h", "x"):
            for world in (-1, 4, 10 ** 59, -10 ** 59):
                with self.assertRaises(NoWorld) as caught:
                    web_behind(WEB, hand, world)
                self.assertIs(caught.exception.world, world)

    def test_by_the_words(self):
        for web in some_webs(741, 150):
            for hand in ("h", "k"):
                for world in range(web[0]):
                    goals = sorted(y for x, y in steps(web, hand) if x == world)
                    wanted = cut(web, goals)[0] if goals else None
                    self.assertEqual(web_behind(web, hand, world), wanted)

    def test_by_on_and_round_there_are_back_on_self_in_it(self):
        found = 0
        for web in webs_of(house_of(("on", "round")), 3, ("a",)):
            for world in range(3):
                behind = web_behind(web, "h", world)
                if behind is not None:
                    found += 1
                    self.assertTrue(is_web(behind))
                    self.assertTrue(all(has_rule(behind, "h", word) for word in ("back", "on", "self")))
                    goals = sorted(y for x, y in steps(web, "h") if x == world)
                    for s in (must("h", A), may("h", no(A)), A):
                        for call, goal in enumerate(goals):
                            self.assertEqual(holds(behind, call, s), holds(web, goal, s))
        self.assertGreater(found, 100)

    def test_by_name_in_another_order(self):
        self.assertEqual(web_behind(world=1, hand="h", web=WEB), (1, (("h", ((0, 0),)),), ()))
        self.assertEqual(web_behind(WEB, "h", 0), web_behind(WEB, "h", 0))
