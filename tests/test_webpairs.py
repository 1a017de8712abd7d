"""[36], [37]: WORLDS of two WEBS paired, or parted by a SAYING; just one of both."""

import itertools
import unittest

from mustmays.againstwebs import left_web
from mustmays.cutting import reached_web
from mustmays.errors import NoWorld
from mustmays.leastwebs import least_web
from mustmays.pairchecker import lets_pairs
from mustmays.sayingkinds import is_plain_saying
from mustmays.webpairs import pair_paper, parting_saying
from tests.papers import greatest_pairs, pairs_refusal
from tests.plainly import A, B, F, either, holds, house_of, may, must, no, so, some_sayings, some_webs, steps, webs_of

LOOP = (1, (("h", ((0, 0),)),), ())
RING = (3, (("h", ((0, 1), (1, 2), (2, 0))),), ())
LINE = (4, (("h", ((0, 1), (1, 2), (2, 3))),), ())


class WebPairs(unittest.TestCase):
    def check(self, web, world, other, second, alike):
        """By the words of what is told: just one of both."""
        paper, s = pair_paper(web, world, other, second), parting_saying(web, world, other, second)
        self.assertEqual((paper is not None, s is None), (alike, alike), (web, world, other, second))
        if alike:
            self.assertIs(type(paper), tuple)
            self.assertIsNone(pairs_refusal(web, other, paper))
            self.assertEqual(lets_pairs(web, other, paper), len(paper))
            self.assertIn((world, second), paper)
        else:
            self.assertIs(is_plain_saying(s), True)
            self.assertTrue(holds(web, world, s), (web, world, other, second, s))
            self.assertFalse(holds(other, second, s), (web, world, other, second, s))
        return s

    def test_webs_of_one_world_with_themselves(self):
        for web in webs_of(house_of(()), 1, ("a", "b")):
            self.check(web, 0, web, 0, True)
            self.assertEqual(pair_paper(web, 0, web, 0), ((0, 0),))

    def test_letters(self):
        dark, light = (1, (), ()), (1, (), (("a", (0,)),))
        self.assertEqual(self.check(light, 0, dark, 0, False), A)
        self.assertEqual(self.check(dark, 0, light, 0, False), no(A))
        self.check((1, (), (("a", (0,)), ("b", (0,)))), 0, light, 0, False)
        self.check((1, (), (("a", (0,)),)), 0, (1, (), (("b", (0,)),)), 0, False)

    def test_steps(self):
        self.check(LOOP, 0, (1, (), ()), 0, False)
        self.check((1, (), ()), 0, LOOP, 0, False)
        self.check(LOOP, 0, RING, 1, True)
        self.check(RING, 2, LOOP, 0, True)
        self.check(RING, 2, RING, 0, True)
        self.check(LINE, 3, (1, (), ()), 0, True)

    def test_of_another_hand(self):
        other = (1, (("k", ((0, 0),)),), ())
        self.check(LOOP, 0, other, 0, False)
        self.check((1, (("h", ((0, 0),)), ("k", ((0, 0),))), ()), 0, other, 0, False)
        self.check(other, 0, (1, (("h", ((0, 0),)), ("k", ((0, 0),))), ()), 0, False)

    def test_parted_only_some_steps_on(self):
        self.check(LINE, 0, LINE, 1, False)
        self.check(LINE, 1, LINE, 0, False)
        self.check(LINE, 0, LOOP, 0, False)
        self.check(LOOP, 0, LINE, 0, False)
        one = (4, (("h", ((0, 1), (1, 2), (1, 3))),), (("a", (2,)),))
        other = (3, (("h", ((0, 1), (1, 2))),), (("a", (2,)),))
        self.check(one, 0, other, 0, False)
        self.check(other, 0, one, 0, False)
        self.check(one, 2, other, 2, True)
        # Two STEPS on by two HANDS.
        one = (4, (("h", ((0, 1),)), ("k", ((1, 2), (1, 3)))), (("a", (2,)),))
        other = (4, (("h", ((0, 1),)), ("k", ((1, 2), (1, 3)))), ())
        self.check(one, 0, other, 0, False)
        self.check(other, 0, one, 0, False)
        self.check(one, 3, other, 2, True)

    def test_several_goals_on_both_sides(self):
        one = (4, (("h", ((0, 1), (0, 2), (0, 3))),), (("a", (1, 3)), ("b", (2, 3))))
        other = (3, (("h", ((0, 1), (0, 2))),), (("a", (1,)), ("b", (2,))))
        self.check(one, 0, other, 0, False)
        self.check(other, 0, one, 0, False)
        other = (4, (("h", ((0, 1), (0, 2), (0, 3))),), (("a", (2, 3)), ("b", (1, 2))))
        self.check(one, 0, other, 0, True)

    def test_all_small_webs(self):
        webs = list(webs_of(house_of(()), 2, ("a",)))
        for web, other in itertools.product(webs, repeat=2):
            pairs = greatest_pairs(web, other)
            for world, second in itertools.product(range(2), repeat=2):
                self.check(web, world, other, second, (world, second) in pairs)

    def test_many(self):
        kinds = []
        webs = some_webs(970, 160, most=4)
        for web, other in zip(webs, webs[1:]):
            for one in (web, other):
                pairs = greatest_pairs(web, one)
                for world, second in itertools.product(range(web[0]), range(one[0])):
                    kinds.append((world, second) in pairs)
                    self.check(web, world, one, second, kinds[-1])
        self.assertGreater(kinds.count(True), 200)
        self.assertGreater(kinds.count(False), 200)

    def test_webs_with_their_least(self):
        for web in some_webs(971, 80, most=8):
            small, calls = least_web(web)
            self.assertIsNone(pairs_refusal(web, small, tuple(enumerate(calls))))
            self.assertEqual(lets_pairs(web, small, tuple(enumerate(calls))), web[0])
            for world in range(web[0]):
                self.assertIn((world, calls[world]), pair_paper(web, world, small, calls[world]))
                if web[0] <= 4:
                    self.check(web, world, small, calls[world], True)
                    self.check(small, calls[world], web, world, True)

    def test_webs_of_worlds_twice_with_their_least(self):
        for web in some_webs(972, 40, most=2):
            many = web[0]
            twice = (2 * many,
                     tuple((hand, tuple(sorted((x + i, y + j) for x, y in pairs for i in (0, many) for j in (0, many))))
                           for hand, pairs in web[1]),
                     tuple((word, places + tuple(x + many for x in places)) for word, places in web[2]))
            small, calls = least_web(twice)
            self.assertEqual(calls[:many], calls[many:])
            for world in range(2 * many):
                self.check(twice, world, small, calls[world], True)
                self.check(twice, world, web, world % many, True)

    def test_what_is_reached_is_paired_with_the_web(self):
        for web in some_webs(973, 80, most=6):
            for world in range(web[0]):
                part, call = reached_web(web, world)
                self.assertIsNotNone(pair_paper(web, world, part, call))
                if web[0] <= 4:
                    self.check(web, world, part, call, True)

    def test_paired_worlds_say_the_same(self):
        sayings = some_sayings(974, 30, with_told=True)
        webs = some_webs(975, 60, most=3)
        for web, other in zip(webs, webs[1:]):
            for world, second in itertools.product(range(web[0]), range(other[0])):
                for x, y in pair_paper(web, world, other, second) or ():
                    for s in sayings:
                        self.assertEqual(holds(web, x, s), holds(other, y, s))

    def test_no_world(self):
        for look in (pair_paper, parting_saying):
            for world, second, wanted in (
                    (1, 0, 1), (-1, 0, -1), (10 ** 59, 3, 10 ** 59), (5, 7, 5), (0, 3, 3), (0, -1, -1),
                    (0, -10 ** 59, -10 ** 59), (1, 1, 1), (-1, 9, -1)):
                with self.assertRaises(NoWorld) as caught:
                    look(LOOP, world, RING, second)
                self.assertEqual(caught.exception.world, wanted)
            with self.assertRaises(NoWorld) as caught:
                look(RING, 2, LOOP, 2)
            self.assertEqual(caught.exception.world, 2)

    def test_larger_webs_that_were_told_here(self):
        web = left_web(house_of(("on",)), so(must("h", A), either(must("h", B), may("h", no(B)))))
        self.assertGreater(web[0], 8)
        small, calls = least_web(web)
        for world in (0, web[0] - 1):
            paper = pair_paper(web, world, small, calls[world])
            self.assertEqual(lets_pairs(web, small, paper), len(paper))

    def test_by_name_in_another_order(self):
        web, other = LINE, (2, (("h", ((0, 1),)),), ())
        self.assertIsNone(pair_paper(second=0, other=other, world=0, web=web))
        self.assertIn((2, 0), pair_paper(second=0, other=other, world=2, web=web))
        s = parting_saying(second=1, other=other, world=2, web=web)
        self.assertTrue(holds(web, 2, s))
        self.assertFalse(holds(other, 1, s))
        self.assertIsNone(parting_saying(second=1, other=other, world=3, web=web))

    def test_what_is_handed_in_stays(self):
        self.assertEqual(pair_paper(LOOP, 0, RING, 0) is None, pair_paper(LOOP, 0, RING, 0) is None)
        self.assertEqual(LINE, (4, (("h", ((0, 1), (1, 2), (2, 3))),), ()))
        self.assertEqual(steps(RING, "h"), {(0, 1), (1, 2), (2, 0)})
        self.assertNotEqual(parting_saying(LINE, 3, LOOP, 0), F)
