"""[67]: SELF AWAY."""

import unittest

from mustmays.answering import answered
from mustmays.rulelacks import rule_lack
from mustmays.selfaway import self_away, web_with_self
from tests.plainly import (
    A, B, F, T, both, either, has_rule, holds, house_of, is_web, may, must, no, so, some_sayings, some_webs, steps,
    webs_of)


def away(s, hand):
    """[67], word by word."""
    kind = s[0]
    if kind == "letter":
        return s
    if kind in ("and", "or"):
        return (kind, tuple(away(t, hand) for t in s[1]))
    if kind == "must" and s[1] == hand:
        return both(must(hand, away(s[2], hand)), away(s[2], hand))
    if kind == "may" and s[1] == hand:
        return either(may(hand, away(s[2], hand)), away(s[2], hand))
    if kind in ("must", "may"):
        return (kind, s[1], away(s[2], hand))
    return (kind,) + tuple(away(t, hand) for t in s[1:])


class SelfAway(unittest.TestCase):
    def check(self, s, hand, wanted):
        self.assertEqual(self_away(s, hand), wanted)
        self.assertEqual(away(s, hand), wanted)

    def test_of_the_hand(self):
        self.check(must("h", A), "h", both(must("h", A), A))
        self.check(may("h", A), "h", either(may("h", A), A))

    def test_of_others(self):
        for s in (must("k", A), may("k", A), A, no(A), T, F, so(A, B), both(A, must("k", B)), either(A)):
            self.check(s, "h", s)

    def test_letters_that_are_called_as_the_hand(self):
        self.check(("letter", "h"), "h", ("letter", "h"))
        self.check(must("h", ("letter", "h")), "h", both(must("h", ("letter", "h")), ("letter", "h")))
        self.check(("letter", "must"), "must", ("letter", "must"))

    def test_within_others(self):
        m = both(must("h", A), A)
        self.check(no(must("h", A)), "h", no(m))
        self.check(so(must("h", A), A), "h", so(m, A))
        self.check(must("k", must("h", A)), "h", must("k", m))
        self.check(may("k", both(T, may("h", F))), "h", may("k", both(T, either(may("h", F), F))))
        self.check(must("h", must("h", A)), "h", both(must("h", m), m))
        self.check(must("h", may("h", A)), "h", both(must("h", either(may("h", A), A)), either(may("h", A), A)))
        self.check(must("h", must("k", must("h", A))), "h", both(must("h", must("k", m)), must("k", m)))

    def test_many(self):
        for s, web in zip(some_sayings(990, 200, most_atoms=6), some_webs(991, 200)):
            for hand in ("h", "k", "x"):
                self.check(s, hand, away(s, hand))
                with_self = web_with_self(web, hand)
                for world in range(web[0]):
                    self.assertEqual(holds(with_self, world, s), holds(web, world, self_away(s, hand)))

    def test_by_name_in_another_order(self):
        self.assertEqual(self_away(hand="h", saying=must("h", A)), both(must("h", A), A))

    def test_shown_just_where_it_is_without_self(self):
        words = []
        sayings = some_sayings(992, 80, hands=("h",), most_atoms=3)
        sayings += [so(must("h", A), A), so(A, may("h", A)), so(must("h", A), must("h", must("h", A))), may("h", T),
                    so(A, must("h", may("h", A))), so(may("h", A), must("h", may("h", A))), so(may("h", A), A)]
        for rules in (("self",), ("back", "self"), ("on", "self"), ("back", "on", "self")):
            less = tuple(word for word in rules if word != "self")
            for s in sayings:
                words.append(answered(house_of(rules), s)[0])
                self.assertEqual(answered(house_of(less), self_away(s, "h"))[0], words[-1], (rules, s))
        self.assertGreater(words.count("shown"), 60)
        self.assertGreater(words.count("against"), 60)


class WithSelf(unittest.TestCase):
    def test_with_self(self):
        self.assertEqual(web_with_self((2, (("h", ((0, 1),)),), (("a", (1,)),)), "h"),
                         (2, (("h", ((0, 0), (0, 1), (1, 1))),), (("a", (1,)),)))
        self.assertEqual(web_with_self((2, (("h", ((0, 0), (1, 0), (1, 1))),), ()), "h"),
                         (2, (("h", ((0, 0), (1, 0), (1, 1))),), ()))

    def test_a_hand_without_steps(self):
        self.assertEqual(web_with_self((1, (), ()), "h"), (1, (("h", ((0, 0),)),), ()))
        web = (2, (("b", ((0, 1),)), ("d", ((1, 0),))), ())
        own = ((0, 0), (1, 1))
        self.assertEqual(web_with_self(web, "a"), (2, (("a", own), *web[1]), ()))
        self.assertEqual(web_with_self(web, "c"), (2, (web[1][0], ("c", own), web[1][1]), ()))
        self.assertEqual(web_with_self(web, "e"), (2, (*web[1], ("e", own)), ()))

    def test_by_the_words(self):
        for web in some_webs(993, 100):
            for hand in ("h", "k", "x"):
                found = web_with_self(web, hand)
                self.assertTrue(is_web(found))
                self.assertEqual((found[0], found[2]), (web[0], web[2]))
                for other in ("h", "k", "x"):
                    own = {(w, w) for w in range(web[0])} if other == hand else set()
                    self.assertEqual(steps(found, other), steps(web, other) | own)

    def test_back_and_on_stay(self):
        for rules in (("back",), ("on",), ("back", "on")):
            for web in webs_of(house_of(rules), 3, ()):
                found = web_with_self(web, "h")
                self.assertTrue(all(has_rule(found, "h", word) for word in (*rules, "self")))
                self.assertIsNone(rule_lack(found, "h", tuple(sorted((*rules, "self")))))

    def test_by_name_in_another_order(self):
        self.assertEqual(web_with_self(hand="h", web=(1, (), ())), (1, (("h", ((0, 0),)),), ()))
