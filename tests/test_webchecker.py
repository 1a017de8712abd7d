"""[6], [29]: any thing looked at as a WEB OF a HOUSE."""

import unittest

from mustmays.againstwebs import left_web
from mustmays.errors import NoPaper
from mustmays.webchecker import lets_web
from tests.judges import bent_ones, let_houses, web_refusal
from tests.plainly import A, B, LET_RULES, house_of, is_of, may, must, some_webs, so, webs_of

HANDS = ((("h", ("on",)), ("j", ("self",)), ("k", ("back", "step"))), ())


class WebChecker(unittest.TestCase):
    def check(self, house, thing, wanted):
        if wanted is None:
            self.assertIs(lets_web(house, thing), True)
        else:
            with self.assertRaises(NoPaper) as caught:
                lets_web(house, thing)
            self.assertEqual((caught.exception.word, caught.exception.at), wanted, (house, thing))
            for number in wanted[1] if isinstance(wanted[1], tuple) else ():
                self.assertIs(type(number), int)
        self.assertEqual(web_refusal(house, thing), wanted, (house, thing))

    def test_let_by(self):
        self.check(house_of(()), (1, (), ()), None)
        self.check(house_of(("ends", "on")), (1, (), (("x", (0,)),)), None)
        self.check(house_of(("self",)), (1, (("h", ((0, 0),)),), ()), None)
        self.check(HANDS, (1, (("j", ((0, 0),)), ("k", ((0, 0),))), ()), None)

    def test_shape(self):
        for thing in (None, (), [1, (), ()], (0, (), ()), (True, (), ()), (2, (("x", ((0, 2),)),), ()), "web",
                      (1, (("h", ()),), ())):
            self.check(house_of(()), thing, ("shape", -1))
            self.check(HANDS, thing, ("shape", -1))

    def test_hand(self):
        web = (2, (("a", ((0, 0),)), ("h", ((0, 1),)), ("x", ((0, 1),))), ())
        self.check(house_of(("self",)), web, ("hand", 0))
        self.check(((("a", ("step",)), ("h", ("step",))), ()), web, ("hand", 2))
        self.check(((("a", ()), ("h", ()), ("x", ())), ()), web, None)

    def test_rules_hand_by_hand(self):
        self.check(HANDS, (3, (("h", ((0, 1), (1, 2))),), ()), ("on", (0, 0, 1, 2)))
        self.check(HANDS, (2, (("j", ((0, 0),)),), ()), ("self", (1, 1)))
        self.check(HANDS, (2, (("j", ((0, 0), (1, 1))),), ()), ("step", (2, 0)))
        self.check(HANDS, (2, (("j", ((0, 0), (1, 1))), ("k", ((0, 1),))), ()), ("back", (2, 0, 1)))
        self.check(HANDS, (3, (("h", ((0, 1), (1, 2))), ("k", ((0, 1),))), ()), ("on", (0, 0, 1, 2)))

    def test_each_rule(self):
        self.check(house_of(("on", "round")), (2, (("h", ((0, 1),)),), ()), ("round", (0, 0, 1, 1)))
        self.check(house_of(("ends", "on")), (2, (("h", ((0, 1), (1, 0))),), ()), ("ends", (0, 0)))
        self.check(house_of(("ends", "on")), (3, (("h", ((0, 1), (1, 2))),), ()), ("on", (0, 0, 1, 2)))

    def test_bridges(self):
        house = ((("h", ()), ("j", ()), ("k", ())), (("h", "j"), ("h", "k")))
        self.check(house, (2, (("j", ((0, 1),)),), ()), ("bridge", (0, 0, 1)))
        self.check(house, (2, (("h", ((0, 0),)), ("k", ((0, 0), (1, 0)))), ()), ("bridge", (1, 1, 0)))
        self.check(house, (2, (("h", ((1, 0),)), ("j", ((1, 0), (1, 1))), ("k", ((0, 0),))), ()), ("bridge", (0, 1, 1)))
        self.check(house, (2, (("h", ((0, 0), (1, 0))), ("j", ((1, 0),)), ("k", ((0, 0),))), ()), None)
        ruled = ((("h", ("on",)), ("k", ("step",))), (("h", "k"),))
        self.check(ruled, (1, (), ()), ("step", (1, 0)))
        self.check(ruled, (1, (("k", ((0, 0),)),), ()), ("bridge", (0, 0, 0)))

    def test_small_webs(self):
        for rules in LET_RULES:
            for web in webs_of(house_of(()), 2, ()):
                self.check(house_of(rules), web, web_refusal(house_of(rules), web))

    def test_many(self):
        words = set()
        houses = let_houses(330, 200) + let_houses(331, 200)
        for k, web in enumerate(some_webs(332, 400, most=4)):
            for house in (houses[k], ((("h", ()), ("k", ())), (("h", "k"),))):
                wanted = web_refusal(house, web)
                words.add(wanted and wanted[0])
                self.assertEqual(wanted is None, is_of(house, web))
                self.check(house, web, wanted)
        self.assertLessEqual({None, "hand", "step", "self", "back", "on", "bridge"}, words)

    def test_bent_ones(self):
        house = ((("h", ("back", "on", "self")), ("j", ("on",)), ("k", ())), (("h", "j"), ("h", "k"), ("j", "k")))
        web = (3, (("h", ((0, 0), (0, 1), (1, 0), (1, 1), (2, 2))), ("j", ((0, 1), (1, 1))), ("k", ((0, 1),))), ())
        self.check(house, web, None)
        words = set()
        for thing in bent_ones(333, [web], 5000):
            wanted = web_refusal(house, thing)
            words.add(wanted and wanted[0])
            self.check(house, thing, wanted)
        self.assertLessEqual({None, "shape", "hand", "self", "back", "bridge"}, words)

    def test_webs_that_were_told_here(self):
        for k, rules in enumerate(LET_RULES):
            house = ((("h", rules), ("k", ("on",))), ())
            for s in (so(must("h", A), must("k", B)), may("h", must("k", so(A, B)))):
                web = left_web(house, s)
                self.assertGreater(web[0], 4)
                self.check(house, web, None)
        self.assertGreater(left_web(house_of(()), so(must("h", A), must("h", B)))[0], 8)

    def test_very_many_worlds(self):
        self.check(house_of(()), (10 ** 59, (), ()), None)
        with self.assertRaises(NoPaper) as caught:
            lets_web(house_of(("step",)), (10 ** 59, (("h", ((0, 7),)),), ()))
        self.assertEqual((caught.exception.word, caught.exception.at), ("step", (0, 1)))

    def test_by_name_in_another_order(self):
        thing = [1, [], []]
        self.assertIs(lets_web(thing=(1, (), ()), house=house_of(())), True)
        self.check(house_of(()), thing, ("shape", -1))
        self.assertEqual(thing, [1, [], []])
