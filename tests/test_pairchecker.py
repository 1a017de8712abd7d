"""[35], [37]: any thing looked at as a PAIR PAPER of two WEBS."""

import random
import unittest

from mustmays.errors import NoPaper
from mustmays.pairchecker import lets_pairs
from tests.judges import bent_ones
from tests.papers import greatest_pairs, pairs_refusal
from tests.plainly import holds, some_sayings, some_webs

LOOP = (1, (("h", ((0, 0),)),), (("a", (0,)),))
RING = (2, (("h", ((0, 1), (1, 0))),), (("a", (0, 1)),))
FORK = (3, (("h", ((0, 1), (0, 2))),), (("b", (2,)),))
LINE = (2, (("h", ((0, 1),)),), ())


class PairChecker(unittest.TestCase):
    def check(self, web, other, thing, wanted):
        """wanted is the word and the place of the refusal, or None."""
        self.assertEqual(pairs_refusal(web, other, thing), wanted, (web, other, thing))
        if wanted is None:
            found = lets_pairs(web, other, thing)
            self.assertIs(type(found), int)
            self.assertEqual(found, len(thing))
        else:
            with self.assertRaises(NoPaper) as caught:
                lets_pairs(web, other, thing)
            self.assertEqual((caught.exception.word, caught.exception.at), wanted, (web, other, thing))
            at = caught.exception.at
            for number in at if isinstance(at, tuple) else (at,):
                self.assertIs(type(number), int)

    def test_of_no_pair(self):
        self.check(LOOP, RING, (), None)
        self.check(LOOP, FORK, (), None)

    def test_let_by(self):
        self.check(LOOP, RING, ((0, 0), (0, 1)), None)
        self.check(RING, LOOP, ((0, 0), (1, 0)), None)
        self.check(RING, RING, ((0, 0), (1, 1)), None)
        self.check(RING, RING, ((0, 1), (1, 0)), None)
        self.check(FORK, FORK, ((0, 0), (1, 1), (2, 2)), None)
        self.check(FORK, LINE, ((1, 1),), None)

    def test_shape(self):
        for thing in (None, 0, True, "pairs", [], [(0, 0)], ([0, 0],), ((0,),), ((0, 0, 0),), ((0, True),), ((False, 0),),
                      ((0, 0), None), ((0, "0"),), ((None, 0),), (0, 0), (((0,), 0),), {}, ((0, 0), (1, True))):
            self.check(LOOP, RING, thing, ("shape", -1))

    def test_shape_goes_ahead_of_all(self):
        self.check(LOOP, RING, ((9, 9), (0, 0), (0, True)), ("shape", -1))

    def test_rise(self):
        self.check(LOOP, RING, ((0, 0), (0, 0)), ("rise", 1))
        self.check(LOOP, RING, ((0, 0), (0, 1), (0, 1)), ("rise", 2))
        self.check(RING, RING, ((0, 1), (0, 0), (1, 0), (1, 0)), ("rise", 1))
        self.check(RING, RING, ((1, 0), (0, 1)), ("rise", 1))
        self.check(LOOP, RING, ((7, 0), (0, 9), (0, 8)), ("rise", 1))

    def test_world(self):
        self.check(LOOP, RING, ((0, 0), (0, 2)), ("world", 1))
        self.check(LOOP, RING, ((0, 0), (1, 0)), ("world", 1))
        self.check(LOOP, RING, ((-1, 0), (0, 0)), ("world", 0))
        self.check(LOOP, RING, ((0, -1), (0, 0)), ("world", 0))
        self.check(LOOP, RING, ((0, 10 ** 59),), ("world", 0))
        self.check(RING, LOOP, ((0, 0), (0, 1), (1, 0)), ("world", 1))
        # Ahead of the letters of pairs ahead.
        self.check(FORK, FORK, ((0, 2), (9, 9)), ("world", 1))

    def test_letter(self):
        self.check(FORK, FORK, ((0, 2), (1, 2)), ("letter", 0))
        self.check(FORK, FORK, ((1, 1), (2, 1)), ("letter", 1))
        # Ahead of the STEPS of pairs ahead.
        self.check(FORK, FORK, ((0, 0), (2, 1)), ("letter", 1))
        one = (1, (), (("a", (0,)), ("b", (0,))))
        self.check(one, (1, (), (("a", (0,)),)), ((0, 0),), ("letter", 0))
        self.check((1, (), (("b", (0,)),)), one, ((0, 0),), ("letter", 0))
        self.check(one, one, ((0, 0),), None)

    def test_step(self):
        self.check(LINE, (1, (), ()), ((0, 0),), ("step", (0, 1)))
        self.check(LINE, LINE, ((0, 0),), ("step", (0, 1)))
        self.check(FORK, LINE, ((0, 0), (1, 1)), ("step", (0, 2)))
        self.check(LINE, LINE, ((0, 1), (1, 1)), ("step", (0, 1)))

    def test_other(self):
        self.check((1, (), ()), LINE, ((0, 0),), ("other", (0, 1)))
        self.check(LINE, FORK, ((0, 0), (1, 1)), ("other", (0, 2)))
        self.check(LINE, LINE, ((1, 0), (1, 1)), ("other", (0, 1)))

    def test_pair_by_pair(self):
        # Of pair 0 the step ahead of the other, both ahead of what pair 1 has.
        self.check(FORK, FORK, ((0, 0), (1, 0)), ("step", (0, 1)))
        self.check(FORK, FORK, ((0, 0), (1, 1)), ("step", (0, 2)))
        self.check(LINE, LINE, ((0, 1), (1, 0)), ("step", (0, 1)))
        self.check(LINE, LINE, ((1, 0), (1, 1)), ("other", (0, 1)))
        two = (3, (("h", ((0, 1),)),), ())
        self.check(two, two, ((1, 0), (1, 1)), ("other", (0, 1)))
        self.check(two, two, ((1, 1), (2, 0)), ("other", (1, 1)))

    def test_a_step_of_one_hand_that_the_other_has_not(self):
        h = (2, (("h", ((0, 1),)),), ())
        k = (2, (("k", ((0, 1),)),), ())
        both_hands = (2, (("h", ((0, 1),)), ("k", ((0, 1),))), ())
        pairs = ((0, 0), (1, 1))
        self.check(h, k, pairs, ("step", (0, 1)))
        self.check(k, h, pairs, ("step", (0, 1)))
        self.check(h, both_hands, pairs, ("other", (0, 1)))
        self.check(both_hands, h, pairs, ("step", (0, 1)))
        self.check(both_hands, both_hands, pairs, None)

    def test_the_least_world_of_all_hands(self):
        # By h it is 2 alone, by k 1: 1 is the least.
        web = (3, (("h", ((0, 2),)), ("k", ((0, 1),))), ())
        self.check(web, (1, (), ()), ((0, 0),), ("step", (0, 1)))
        self.check((1, (), ()), web, ((0, 0),), ("other", (0, 1)))
        # To 1 by h there is one, by k none.
        web = (3, (("h", ((0, 1), (0, 2))), ("k", ((0, 1),))), ())
        other = (2, (("h", ((0, 1),)),), ())
        self.check(web, other, ((0, 0), (1, 1), (2, 1)), ("step", (0, 1)))
        self.check(other, web, ((0, 0), (1, 1), (1, 2)), ("other", (0, 1)))

    def test_many(self):
        words = set()
        chance = random.Random(720)
        webs = some_webs(721, 120, most=4)
        for web, other in zip(webs, webs[1:]):
            for one in (web, other):
                pairs = greatest_pairs(web, one)
                self.check(web, one, pairs, None)
                for thing in bent_ones(chance.randrange(9999), [pairs, ((0, 0), (0, 1))], 25):
                    wanted = pairs_refusal(web, one, thing)
                    words.add(wanted and wanted[0])
                    self.check(web, one, thing, wanted)
                some = tuple(sorted({(chance.randrange(web[0]), chance.randrange(one[0])) for _ in range(3)}))
                self.check(web, one, some, pairs_refusal(web, one, some))
        self.assertEqual(words, {None, "shape", "rise", "world", "letter", "step", "other"})

    def test_what_is_let_by_says_the_same(self):
        webs = some_webs(722, 80, most=4)
        sayings = some_sayings(723, 40, with_told=True)
        seen = 0
        for web, other in zip(webs, webs[40:] + webs[:40]):
            for one in (web, other):
                for x, y in greatest_pairs(web, one):
                    seen += 1
                    for s in sayings:
                        self.assertEqual(holds(web, x, s), holds(one, y, s))
        self.assertGreater(seen, 200)

    def test_large_webs(self):
        many = 40
        pairs = tuple((x, y) for x in range(many) for y in range(many))
        web = (many, (("h", pairs), ("k", pairs)), ())
        self.assertEqual(lets_pairs(web, web, pairs), many * many)

    def test_by_name_in_another_order(self):
        self.assertEqual(lets_pairs(thing=((0, 0), (0, 1)), other=RING, web=LOOP), 2)
        with self.assertRaises(NoPaper) as caught:
            lets_pairs(thing=((0, 0), (0, 1)), other=LOOP, web=RING)
        self.assertEqual((caught.exception.word, caught.exception.at), ("world", 1))

    def test_what_is_handed_in_stays(self):
        thing = [[0, 0]]
        for _ in range(2):
            with self.assertRaises(NoPaper):
                lets_pairs(LOOP, RING, thing)
        self.assertEqual(thing, [[0, 0]])
