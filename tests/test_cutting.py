"""[26]: the CUT of a WEB, and what is REACHED from a WORLD."""

import unittest

from mustmays.cutting import cut_web, reached_web
from mustmays.errors import NoWorld
from mustmays.holding import holds_at
from tests.plainly import (
    A, B, F, T, both, cut, holds, is_web, may, must, no, reached, so, some_sayings, some_webs, told)

WEB = (4, (("h", ((0, 1), (1, 2), (2, 2))), ("k", ((3, 0),))), (("a", (1, 2)), ("b", (3,)), ("c", (0, 2))))


class Cuts(unittest.TestCase):
    def check(self, web, s):
        """By the words: the WORLDS at which it HOLDS, called anew."""
        found = cut_web(web, s)
        worlds = [w for w in range(web[0]) if holds(web, w, s)]
        if not worlds:
            self.assertIsNone(found)
        else:
            self.assertEqual(found, cut(web, worlds)[0], (web, s))
            self.assertTrue(is_web(found))
        return found

    def test_all(self):
        self.assertEqual(self.check(WEB, T), WEB)
        self.assertEqual(self.check((1, (), ()), T), (1, (), ()))

    def test_nowhere(self):
        for s in (F, both(A, B), ("letter", "x"), may("x", T)):
            self.assertIsNone(self.check(WEB, s))

    def test_called_anew(self):
        self.assertEqual(self.check(WEB, A), (2, (("h", ((0, 1), (1, 1))),), (("a", (0, 1)), ("c", (1,)))))
        self.assertEqual(self.check(WEB, no(A)), (2, (("k", ((1, 0),)),), (("b", (1,)), ("c", (0,)))))
        self.assertEqual(self.check(WEB, B), (1, (), (("b", (0,)),)))
        self.assertEqual(self.check(WEB, ("letter", "c")), (2, (("h", ((1, 1),)),), (("a", (1,)), ("c", (0, 1)))))

    def test_hands_and_letters_go_out(self):
        web = (2, (("h", ((0, 1),)), ("k", ((1, 1),))), (("a", (0,)), ("b", (1,))))
        self.assertEqual(self.check(web, A), (1, (), (("a", (0,)),)))
        self.assertEqual(self.check(web, B), (1, (("k", ((0, 0),)),), (("b", (0,)),)))
        self.assertEqual(self.check(web, must("x", F)), web)

    def test_by_told(self):
        self.check(WEB, told(A, must("h", A)))
        self.check(WEB, told(no(A), may("k", T)))

    def test_many(self):
        for k, web in enumerate(some_webs(500, 200, most=8)):
            for s in some_sayings(501 + k, 4, with_told=True):
                self.check(web, s)

    def test_what_is_told_to_all(self):
        for k, web in enumerate(some_webs(502, 60)):
            s, t = some_sayings(503 + k, 2)
            small = cut_web(web, s)
            if small is not None:
                worlds = [w for w in range(web[0]) if holds(web, w, s)]
                for name, world in enumerate(worlds):
                    self.assertEqual(holds_at(small, name, t), holds_at(web, world, told(s, t)))

    def test_by_name_in_another_order(self):
        self.assertEqual(cut_web(saying=B, web=WEB), (1, (), (("b", (0,)),)))


class Reached(unittest.TestCase):
    def check(self, web, world):
        worlds = reached(web, world)
        wanted = cut(web, worlds)[0], worlds.index(world)
        self.assertEqual(reached_web(web, world), wanted, (web, world))
        self.assertIs(type(reached_web(web, world)), tuple)
        return wanted

    def test_itself_alone(self):
        self.assertEqual(self.check((1, (), ()), 0), ((1, (), ()), 0))
        self.assertEqual(self.check(WEB, 2), ((1, (("h", ((0, 0),)),), (("a", (0,)), ("c", (0,)))), 0))
        self.assertEqual(self.check((3, (("h", ((0, 1),)),), (("a", (0, 2)),)), 2), ((1, (), (("a", (0,)),)), 0))

    def test_rows_of_steps(self):
        self.assertEqual(self.check(WEB, 1), (
            (2, (("h", ((0, 1), (1, 1))),), (("a", (0, 1)), ("c", (1,)))), 0))
        self.assertEqual(self.check(WEB, 3), (WEB, 3))
        self.assertEqual(self.check((3, (("h", ((2, 1),)), ("k", ((1, 2),))), (("a", (0,)),)), 2), (
            (2, (("h", ((1, 0),)), ("k", ((0, 1),))), ()), 1))

    def test_steps_that_lead_there_are_not_gone_back(self):
        self.assertEqual(self.check((2, (("h", ((0, 1),)),), ()), 1), ((1, (), ()), 0))

    def test_no_world(self):
        for world in (4, -1, 10 ** 59, -10 ** 59):
            with self.assertRaises(NoWorld) as caught:
                reached_web(WEB, world)
            self.assertEqual(caught.exception.world, world)

    def test_many(self):
        for k, web in enumerate(some_webs(504, 120, most=8)):
            for world in range(web[0]):
                (small, name) = self.check(web, world)
                for s in some_sayings(505 + k, 3):
                    self.assertEqual(holds(small, name, s), holds(web, world, s))

    def test_told_sayings_hold_alike_too(self):
        for k, web in enumerate(some_webs(506, 60)):
            small, name = reached_web(web, 0)
            for s in some_sayings(507 + k, 4, with_told=True):
                self.assertEqual(holds(small, name, s), holds(web, 0, s))

    def test_by_name_in_another_order(self):
        self.assertEqual(reached_web(world=2, web=WEB)[1], 0)

    def test_what_is_handed_in_stays(self):
        web = (2, (("h", ((0, 1),)),), ())
        for _ in range(2):
            self.assertEqual(cut_web(web, so(A, B)), web)
            self.assertEqual(reached_web(web, 0), (web, 0))
        self.assertEqual(web, (2, (("h", ((0, 1),)),), ()))
