"""[11]: PARTS, letters, HANDS and depth of SAYINGS."""

import unittest

from mustmays.sayingparts import depth_of, hands_of, letters_of, parts_of_saying
from tests import plainly
from tests.plainly import A, B, C, F, T, both, either, hands_in, may, must, no, so, some_sayings, told


class Parts(unittest.TestCase):
    def test_parts(self):
        self.assertEqual(parts_of_saying(A), (A,))
        self.assertEqual(parts_of_saying(T), (T,))
        self.assertEqual(parts_of_saying(both(B, A, B)), (both(B, A, B), A, B))
        self.assertEqual(parts_of_saying(no(A)), (A, no(A)))
        self.assertEqual(parts_of_saying(may("h", T)), (T, may("h", T)))
        self.assertEqual(parts_of_saying(so(no(A), must("h", A))),
                         (A, must("h", A), no(A), so(no(A), must("h", A))))
        self.assertEqual(parts_of_saying(told(either(A), F)), (A, F, either(A), told(either(A), F)))

    def test_parts_of_each_word(self):
        for s in (no(A), both(A), either(A), must("h", A), may("h", A)):
            self.assertEqual(set(parts_of_saying(s)), {s, A})
        for s in (so(A, B), told(A, B), both(A, B), either(B, A)):
            self.assertEqual(set(parts_of_saying(s)), {s, A, B})

    def test_parts_rise_and_are_unlike(self):
        for s in some_sayings(2, 200, with_told=True):
            self.assertEqual(parts_of_saying(s), tuple(sorted(plainly.parts(s))))

    def test_letters(self):
        self.assertEqual(letters_of(A), ("a",))
        self.assertEqual(letters_of(T), ())
        self.assertEqual(letters_of(must("h", F)), ())
        self.assertEqual(letters_of(both(C, A, no(C))), ("a", "c"))
        self.assertEqual(letters_of(told(B, may("h", A))), ("a", "b"))
        self.assertEqual(letters_of(must("a", ("letter", "told"))), ("told",))
        self.assertEqual(letters_of(so(("letter", "ab"), ("letter", "aa"))), ("aa", "ab"))

    def test_hands(self):
        self.assertEqual(hands_of(A), ())
        self.assertEqual(hands_of(told(A, B)), ())
        self.assertEqual(hands_of(may("k", must("h", may("k", A)))), ("h", "k"))
        self.assertEqual(hands_of(told(may("z", A), must("a", B))), ("a", "z"))
        self.assertEqual(hands_of(must("must", ("letter", "may"))), ("must",))

    def test_depth(self):
        self.assertEqual(depth_of(A), 1)
        self.assertEqual(depth_of(T), 1)
        self.assertEqual(depth_of(F), 1)
        self.assertEqual(depth_of(both(A)), 2)
        self.assertEqual(depth_of(no(T)), 2)
        self.assertEqual(depth_of(both(A, no(no(A)), B)), 4)
        self.assertEqual(depth_of(so(A, must("h", B))), 3)
        self.assertEqual(depth_of(so(may("h", no(B)), A)), 4)
        self.assertEqual(depth_of(told(A, A)), 2)
        self.assertEqual(depth_of(told(A, either(told(A, B)))), 4)

    def test_many(self):
        def depth(s):
            return 1 + max(map(depth, plainly.within(s)), default=0)

        for s in some_sayings(3, 200, with_told=True):
            found = plainly.parts(s)
            self.assertEqual(letters_of(s), tuple(sorted({p[1] for p in found if p[0] == "letter"})))
            self.assertEqual(hands_of(s), tuple(hands_in(s)))
            self.assertEqual(depth_of(s), depth(s))

    def test_kinds(self):
        for told_here in (parts_of_saying(A), letters_of(A), letters_of(T), hands_of(A), hands_of(must("h", A))):
            self.assertIs(type(told_here), tuple)
        self.assertIs(type(depth_of(A)), int)

    def test_by_name_and_twice(self):
        s = both(may("h", A), told(A, B))
        self.assertEqual(parts_of_saying(saying=s), parts_of_saying(s))
        self.assertEqual(letters_of(saying=s), letters_of(s))
        self.assertEqual(hands_of(saying=s), hands_of(s))
        self.assertEqual(depth_of(saying=s), depth_of(s))
        self.assertEqual(s, both(may("h", A), told(A, B)))

    def test_large(self):
        s = A
        for _ in range(30):
            s = may("h", s)
        self.assertEqual(depth_of(s), 31)
        self.assertEqual(len(parts_of_saying(s)), 31)
        self.assertEqual(len(parts_of_saying(both(*[no(A)] * 2000))), 3)
