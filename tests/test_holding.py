"""[5], [25]: where SAYINGS HOLD in WEBS."""

import unittest

from mustmays.errors import NoWorld
from mustmays.holding import holds_at, worlds_where
from mustmays.atomkinds import core_of
from tests.plainly import (
    A, B, C, F, T, both, either, holds, may, must, no, so, some_sayings, some_webs, told)

# 0 -> 1 -> 2, 0 -> 2 by h; 2 -> 2 by k; a at 0 and 2, b at 1.
WEB = (3, (("h", ((0, 1), (0, 2), (1, 2))), ("k", ((2, 2),))), (("a", (0, 2)), ("b", (1,))))
ONE = (1, (), ())


class Holding(unittest.TestCase):
    def check(self, s, worlds, web=WEB):
        self.assertEqual(worlds_where(web, s), worlds)
        self.assertIs(type(worlds_where(web, s)), tuple)
        for world in range(web[0]):
            self.assertIs(holds_at(web, world, s), world in worlds)

    def test_letters(self):
        self.check(A, (0, 2))
        self.check(B, (1,))
        self.check(C, ())
        self.check(A, (), ONE)

    def test_not_to_so(self):
        self.check(no(A), (1,))
        self.check(T, (0, 1, 2))
        self.check(F, ())
        self.check(both(A), (0, 2))
        self.check(both(A, B), ())
        self.check(either(A, B), (0, 1, 2))
        self.check(either(B), (1,))
        self.check(so(A, B), (1,))
        self.check(so(B, A), (0, 2))
        self.check(so(A, A), (0, 1, 2))
        self.check(so(C, F), (0, 1, 2))

    def test_must_and_may(self):
        self.check(must("h", A), (1, 2))
        self.check(may("h", A), (0, 1))
        self.check(must("h", F), (2,))
        self.check(may("h", T), (0, 1))
        self.check(may("h", B), (0,))
        self.check(must("k", A), (0, 1, 2))
        self.check(may("k", A), (2,))
        self.check(may("h", may("h", A)), (0,))
        self.check(may("h", may("k", A)), (0, 1))
        self.check(must("h", must("h", F)), (1, 2))

    def test_hands_that_are_not_there(self):
        self.check(must("x", F), (0, 1, 2))
        self.check(may("x", T), ())
        self.check(must("h", F), (0,), ONE)
        self.check(may("h", T), (), ONE)

    def test_told(self):
        self.check(told(A, may("h", A)), (0, 1))
        self.check(told(A, must("h", F)), (1, 2))
        self.check(told(B, must("h", F)), (0, 1, 2))
        self.check(told(B, may("h", T)), (0, 2))
        self.check(told(A, B), (1,))
        self.check(told(T, may("h", B)), (0,))
        self.check(told(A, may("k", A)), (1, 2))

    def test_told_what_holds_nowhere(self):
        self.check(told(F, F), (0, 1, 2))
        self.check(told(C, may("h", T)), (0, 1, 2))
        self.check(no(told(C, F)), ())

    def test_told_within_told(self):
        self.check(told(no(B), told(may("h", T), must("h", F))), (0, 1, 2))
        self.check(told(told(A, may("h", A)), may("h", B)), (0, 2))
        self.check(told(A, told(A, may("h", A))), (0, 1))
        self.check(must("h", told(A, must("h", F))), (0, 1, 2))

    def test_told_calls_worlds_anew(self):
        web = (4, (("h", ((1, 3), (3, 1))),), (("a", (1, 3)), ("b", (3,))))
        self.check(told(A, may("h", B)), (0, 1, 2), web)
        self.check(told(A, B), (0, 2, 3), web)
        self.check(told(B, may("h", T)), (0, 1, 2), web)

    def test_many(self):
        webs = some_webs(7, 60)
        for s, web in zip(some_sayings(8, 120, with_told=True), webs + webs):
            worlds = tuple(w for w in range(web[0]) if holds(web, w, s))
            self.check(s, worlds, web)

    def test_cores_hold_where_their_sayings_do(self):
        for s, web in zip(some_sayings(9, 60), some_webs(10, 60)):
            self.assertEqual(worlds_where(web, core_of(s)), worlds_where(web, s))

    def test_no_world(self):
        for web, worlds in ((WEB, (-1, 3, 4, -3, 10 ** 59, -10 ** 59)), (ONE, (1, -1))):
            for world in worlds:
                for s in (A, T, C, told(F, F), must("x", F)):
                    with self.assertRaises(NoWorld) as caught:
                        holds_at(web, world, s)
                    self.assertIs(caught.exception.world, world)

    def test_true_is_no_world(self):
        for world in (True, False):
            with self.assertRaises(NoWorld):
                holds_at(WEB, world, A)

    def test_by_name_in_another_order(self):
        self.assertIs(holds_at(saying=A, world=1, web=WEB), False)
        self.assertIs(holds_at(saying=B, web=WEB, world=1), True)
        self.assertEqual(worlds_where(saying=A, web=WEB), (0, 2))

    def test_large(self):
        many = 40
        web = (many, (("h", tuple((x, x + 1) for x in range(many - 1))),), (("a", (many - 1,)),))
        s = A
        for _ in range(30):
            s = may("h", s)
        self.check(s, (9,), web)

    def test_what_is_handed_in_stays(self):
        self.assertEqual(worlds_where(WEB, told(A, B)), worlds_where(WEB, told(A, B)))
        self.assertEqual(WEB, (3, (("h", ((0, 1), (0, 2), (1, 2))), ("k", ((2, 2),))),
                               (("a", (0, 2)), ("b", (1,)))))
