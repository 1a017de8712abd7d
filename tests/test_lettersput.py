"""[22]: SAYINGS put for letters, all at once."""

import random
import unittest

from mustmays.lettersput import letters_put
from tests.plainly import A, B, C, F, T, both, either, may, must, no, so, some_saying, some_sayings, told


def put(s, table):
    kind = s[0]
    if kind == "letter":
        return table.get(s[1], s)
    if kind in ("and", "or"):
        return (kind, tuple(put(t, table) for t in s[1]))
    if kind in ("must", "may"):
        return (kind, s[1], put(s[2], table))
    return (kind,) + tuple(put(t, table) for t in s[1:])


class LettersPut(unittest.TestCase):
    def check(self, s, puts, wanted):
        self.assertEqual(letters_put(s, puts), wanted)
        self.assertEqual(put(s, dict(puts)), wanted)

    def test_none(self):
        for s in (A, T, so(A, must("h", B)), told(A, B)):
            self.check(s, (), s)
            self.check(s, (("x", F), ("y", A)), s)

    def test_one(self):
        self.check(A, (("a", F),), F)
        self.check(B, (("a", F),), B)
        self.check(T, (("a", F),), T)
        self.check(so(A, B), (("a", must("h", C)),), so(must("h", C), B))

    def test_each_word(self):
        s = both(no(A), either(A, B), so(A, A), must("h", A), may("k", A), told(A, A), T, F)
        self.check(s, (("a", C),), both(no(C), either(C, B), so(C, C), must("h", C), may("k", C), told(C, C), T, F))

    def test_all_at_once(self):
        self.check(so(A, B), (("a", B), ("b", A)), so(B, A))
        self.check(both(A, B, C), (("a", B), ("b", C), ("c", A)), both(B, C, A))

    def test_what_is_put_is_not_gone_through_again(self):
        self.check(A, (("a", no(A)),), no(A))
        self.check(so(A, B), (("a", so(A, B)), ("b", both(A, B))), so(so(A, B), both(A, B)))
        self.check(must("h", A), (("a", must("h", A)),), must("h", must("h", A)))

    def test_told(self):
        self.check(told(A, must("h", B)), (("b", told(A, B)),), told(A, must("h", told(A, B))))
        self.check(A, (("a", told(B, A)),), told(B, A))

    def test_hands_are_no_letters(self):
        self.check(must("a", A), (("a", B),), must("a", B))
        self.check(may("a", B), (("a", B),), may("a", B))
        self.check(("letter", "letter"), (("letter", A),), A)
        self.check(("letter", "not"), (("a", B),), ("letter", "not"))

    def test_words_are_whole(self):
        self.check(("letter", "ab"), (("a", B), ("b", A)), ("letter", "ab"))
        self.check(("letter", "ab"), (("a", B), ("ab", A), ("b", A)), A)

    def test_many(self):
        chance = random.Random(710)
        for s in some_sayings(711, 200, words=("a", "b", "c"), with_told=True):
            words = sorted(chance.sample("abcd", chance.randrange(5)))
            puts = tuple((word, some_saying(chance, 2, with_told=True)) for word in words)
            self.check(s, puts, put(s, dict(puts)))

    def test_by_name_in_another_order(self):
        self.assertEqual(letters_put(puts=(("a", B),), saying=A), B)

    def test_what_is_handed_in_stays(self):
        s, puts = so(A, B), (("a", B), ("b", A))
        self.assertEqual(letters_put(s, puts), letters_put(s, puts))
        self.assertEqual((s, puts), (so(A, B), (("a", B), ("b", A))))
