"""[19], [22]: SAYINGS with "not" PUSHED IN."""

import unittest

from mustmays.pushing import pushed_in
from tests.plainly import A, B, C, F, T, both, either, holds, may, must, no, parts, so, some_sayings, some_webs


def push(s, is_so=True):
    """P and N of [19], word by word."""
    kind = s[0]
    if kind == "letter":
        return s if is_so else no(s)
    if kind == "not":
        return push(s[1], not is_so)
    if kind in ("and", "or"):
        word = kind if is_so else {"and": "or", "or": "and"}[kind]
        return (word, tuple(push(t, is_so) for t in s[1]))
    if kind == "so" and is_so:
        return either(push(s[1], False), push(s[2], True))
    if kind == "so":
        return both(push(s[1], True), push(s[2], False))
    word = kind if is_so else {"must": "may", "may": "must"}[kind]
    return (word, s[1], push(s[2], is_so))


class PushedIn(unittest.TestCase):
    def check(self, s, wanted):
        self.assertEqual(pushed_in(s), wanted)
        self.assertEqual(push(s), wanted)

    def test_each_word(self):
        self.check(A, A)
        self.check(both(A, B), both(A, B))
        self.check(either(A, B), either(A, B))
        self.check(so(A, B), either(no(A), B))
        self.check(must("h", A), must("h", A))
        self.check(may("h", A), may("h", A))

    def test_not_of_each_word(self):
        self.check(no(A), no(A))
        self.check(no(no(A)), A)
        self.check(no(no(no(A))), no(A))
        self.check(no(both(A, B)), either(no(A), no(B)))
        self.check(no(either(A, B)), both(no(A), no(B)))
        self.check(no(so(A, B)), both(A, no(B)))
        self.check(no(must("h", A)), may("h", no(A)))
        self.check(no(may("h", A)), must("h", no(A)))

    def test_of_none_and_of_one(self):
        self.check(T, T)
        self.check(F, F)
        self.check(no(T), F)
        self.check(no(F), T)
        self.check(no(no(T)), T)
        self.check(no(both(A)), either(no(A)))
        self.check(no(either(no(A))), both(A))

    def test_within(self):
        self.check(must("h", no(so(A, must("k", B)))), must("h", both(A, may("k", no(B)))))
        self.check(no(must("h", so(A, may("k", no(B))))), may("h", both(A, must("k", B))))
        self.check(so(so(A, B), C), either(both(A, no(B)), C))
        self.check(no(so(no(A), no(B))), both(no(A), B))
        self.check(so(both(A, T), F), either(either(no(A), F), F))
        self.check(no(both(either(A, B), no(may("h", F)))), either(both(no(A), no(B)), may("h", F)))

    def test_many(self):
        for s, web in zip(some_sayings(860, 200, most_atoms=9), some_webs(861, 200)):
            found = pushed_in(s)
            self.check(s, push(s))
            for part in parts(found):
                self.assertNotEqual(part[0], "so")
                if part[0] == "not":
                    self.assertEqual(part[1][0], "letter")
            for world in range(web[0]):
                self.assertEqual(holds(web, world, found), holds(web, world, s))
                self.assertEqual(holds(web, world, pushed_in(no(s))), not holds(web, world, s))
            self.assertEqual(pushed_in(found), found)

    def test_by_name(self):
        self.assertEqual(pushed_in(saying=no(T)), F)

    def test_what_is_handed_in_stays(self):
        s = no(both(A, so(B, A)))
        self.assertEqual(pushed_in(s), pushed_in(s))
        self.assertEqual(s, no(both(A, so(B, A))))
