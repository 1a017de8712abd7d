"""[33], [34]: LEAST WEBS."""

import unittest

from mustmays.errors import NoWorld
from mustmays.leastwebs import least_web
from mustmays.likeness import class_rounds
from tests.plainly import (
    LET_RULES, classes, cut, has_rule, holds, house_of, is_web, reached, some_sayings, some_webs, steps, webs_of)

# 0 and 1 are alike, 2 and 3 are; 4 stands for itself, and k leads there from 3 to nothing new.
WEB = (5, (("h", ((0, 2), (1, 3), (4, 0))), ("k", ((2, 3), (3, 2)))), (("a", (0, 1, 4)), ("b", (2, 3))))


class LeastWebs(unittest.TestCase):
    def test_least(self):
        self.assertEqual(least_web(WEB), (
            (3, (("h", ((0, 1), (2, 0))), ("k", ((1, 1),))), (("a", (0, 2)), ("b", (1,)))), (0, 0, 1, 1, 2)))

    def test_one_world(self):
        for web in ((1, (), ()), (1, (("h", ((0, 0),)),), (("a", (0,)),))):
            self.assertEqual(least_web(web), (web, (0,)))
            self.assertEqual(least_web(web, start=None), (web, (0,)))
            self.assertEqual(least_web(web, start=0), (web, (0,)))

    def test_all_alike(self):
        self.assertEqual(least_web((3, (), ())), ((1, (), ()), (0, 0, 0)))
        web = (3, (("h", ((0, 1), (1, 2), (2, 0))),), (("a", (0, 1, 2)),))
        self.assertEqual(least_web(web), ((1, (("h", ((0, 0),)),), (("a", (0,)),)), (0, 0, 0)))

    def test_start(self):
        self.assertEqual(least_web(WEB, start=0), (
            (2, (("h", ((0, 1),)), ("k", ((1, 1),))), (("a", (0,)), ("b", (1,)))), (0, None, 1, 1, None)))
        self.assertEqual(least_web(WEB, start=2), ((1, (("k", ((0, 0),)),), (("b", (0,)),)), (None, None, 0, 0, None)))
        self.assertEqual(least_web(WEB, start=4), (
            (3, (("h", ((0, 1), (2, 0))), ("k", ((1, 1),))), (("a", (0, 2)), ("b", (1,)))), (0, None, 1, 1, 2)))

    def test_hands_and_letters_that_are_not_reached_go_out(self):
        web = (3, (("h", ((0, 1),)), ("k", ((2, 2),))), (("a", (2,)),))
        self.assertEqual(least_web(web, start=1), ((1, (), ()), (None, 0, None)))
        self.assertEqual(least_web(web, start=0), ((2, (("h", ((0, 1),)),), ()), (0, 1, None)))

    def test_steps_of_whichever_hands_are_followed(self):
        web = (4, (("h", ((0, 1),)), ("k", ((1, 2),))), (("a", (2, 3)),))
        self.assertEqual(least_web(web, start=0)[1], (0, 1, 2, None))

    def test_by_the_words(self):
        for web in some_webs(31, 80):
            for start in (None, *range(web[0])):
                worlds = range(web[0]) if start is None else reached(web, start)
                part, names = cut(web, worlds)
                last = classes(part)[-1]
                small, calls = least_web(web, start=start)
                self.assertEqual(calls, tuple(last[names[w]] if w in names else None for w in range(web[0])))
                self.assertTrue(is_web(small))
                self.assertEqual(small[0], len(set(last)))
                for hand in ("h", "k"):
                    self.assertEqual(steps(small, hand), {(last[x], last[y]) for x, y in steps(part, hand)})
                letters = {word: {last[w] for w in places} for word, places in part[2]}
                self.assertEqual({word: set(places) for word, places in small[2]}, letters)

    def test_sayings_hold_as_before(self):
        for web, s in zip(some_webs(32, 80), some_sayings(33, 80, with_told=True)):
            small, calls = least_web(web)
            for w in range(web[0]):
                self.assertEqual(holds(small, calls[w], s), holds(web, w, s))

    def test_rules_stay(self):
        for rules in LET_RULES:
            for web in webs_of(house_of(rules), 3, ()):
                small, _ = least_web(web)
                self.assertTrue(all(has_rule(small, "h", word) for word in rules))

    def test_made_least_again_nothing_turns(self):
        for web in some_webs(34, 60):
            small, _ = least_web(web)
            self.assertEqual(least_web(small), (small, tuple(range(small[0]))))
            self.assertEqual(class_rounds(small)[-1], tuple(range(small[0])))

    def test_no_world(self):
        for start in (-1, 5, 6, 10 ** 59):
            with self.assertRaises(NoWorld) as caught:
                least_web(WEB, start=start)
            self.assertIs(caught.exception.world, start)

    def test_start_by_name_alone(self):
        with self.assertRaises(TypeError):
            least_web(WEB, 0)
        self.assertEqual(least_web(start=2, web=WEB), least_web(WEB, start=2))

    def test_kinds(self):
        told = least_web(WEB, start=0)
        self.assertIs(type(told), tuple)
        self.assertIs(type(told[1]), tuple)
        self.assertTrue(is_web(told[0]))

    def test_what_is_handed_in_stays(self):
        self.assertEqual(least_web(WEB), least_web(WEB))
        self.assertEqual(WEB, (5, (("h", ((0, 2), (1, 3), (4, 0))), ("k", ((2, 3), (3, 2)))),
                               (("a", (0, 1, 4)), ("b", (2, 3)))))
