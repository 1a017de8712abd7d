"""[21], [22]: "told" TAKEN OUT."""

import unittest

from mustmays.sayingkinds import is_plain_saying
from mustmays.tellingout import told_out
from tests.plainly import A, B, C, F, T, both, either, holds, may, must, no, so, some_sayings, some_webs, told


def out(s):
    kind = s[0]
    if kind == "letter":
        return s
    if kind in ("and", "or"):
        return (kind, tuple(out(t) for t in s[1]))
    if kind == "told":
        return behind(out(s[2]), out(s[1]))
    if kind in ("must", "may"):
        return (kind, s[1], out(s[2]))
    return (kind,) + tuple(out(t) for t in s[1:])


def behind(t, s):
    """t BEHIND s, [21] word by word."""
    kind = t[0]
    if kind == "letter":
        return so(s, t)
    if kind == "not":
        return so(s, no(behind(t[1], s)))
    if kind == "and":
        return both(*[behind(u, s) for u in t[1]])
    if kind == "or":
        return so(s, either(*[behind(u, s) for u in t[1]]))
    if kind == "so":
        return so(behind(t[1], s), behind(t[2], s))
    if kind == "must":
        return so(s, must(t[1], behind(t[2], s)))
    return so(s, may(t[1], both(s, behind(t[2], s))))


class ToldOut(unittest.TestCase):
    def check(self, s, wanted):
        self.assertEqual(told_out(s), wanted)
        self.assertEqual(out(s), wanted)

    def test_plain_ones_stay(self):
        for s in (A, no(A), both(A, B), T, F, either(B), so(A, B), must("h", A), may("k", no(A))):
            self.check(s, s)
        for s in some_sayings(870, 60):
            self.check(s, s)

    def test_each_word_behind(self):
        self.check(told(A, B), so(A, B))
        self.check(told(A, A), so(A, A))
        self.check(told(A, no(B)), so(A, no(so(A, B))))
        self.check(told(A, both(B, C)), both(so(A, B), so(A, C)))
        self.check(told(A, either(B, C)), so(A, either(so(A, B), so(A, C))))
        self.check(told(A, so(B, C)), so(so(A, B), so(A, C)))
        self.check(told(A, must("h", B)), so(A, must("h", so(A, B))))
        self.check(told(A, may("h", B)), so(A, may("h", both(A, so(A, B)))))

    def test_of_none_behind(self):
        self.check(told(A, T), T)
        self.check(told(A, F), so(A, F))
        self.check(told(A, both(B)), both(so(A, B)))
        self.check(told(A, either(B)), so(A, either(so(A, B))))

    def test_within_others(self):
        self.check(no(told(A, B)), no(so(A, B)))
        self.check(must("h", told(A, B)), must("h", so(A, B)))
        self.check(may("h", told(A, must("k", B))), may("h", so(A, must("k", so(A, B)))))
        self.check(both(told(A, B), T), both(so(A, B), T))
        self.check(either(told(A, B), told(B, A)), either(so(A, B), so(B, A)))
        self.check(so(told(A, B), told(B, C)), so(so(A, B), so(B, C)))

    def test_told_within_told_on_either_side(self):
        # What is told ahead is put so first.
        self.check(told(told(A, B), C), so(so(A, B), C))
        # What stands behind is put so first, and each of its words then stands BEHIND the first.
        self.check(told(A, told(B, C)), so(so(A, B), so(A, C)))
        self.check(told(A, told(B, must("h", C))), so(so(A, B), so(A, must("h", so(so(A, B), so(A, C))))))
        self.check(told(told(A, B), told(B, A)), so(so(so(A, B), B), so(so(A, B), A)))
        self.check(told(A, must("h", told(B, C))), so(A, must("h", so(so(A, B), so(A, C)))))
        self.check(told(A, may("h", told(B, C))), so(A, may("h", both(A, so(so(A, B), so(A, C))))))

    def test_told_with_musts(self):
        m = must("h", A)
        self.check(told(m, m), so(m, must("h", so(m, A))))
        self.check(told(may("h", A), no(m)), so(may("h", A), no(so(may("h", A), must("h", so(may("h", A), A))))))

    def test_many(self):
        seen = 0
        for s, web in zip(some_sayings(871, 300, with_told=True), some_webs(872, 300, most=5)):
            found = told_out(s)
            self.check(s, out(s))
            self.assertIs(is_plain_saying(found), True)
            seen += found != s
            for world in range(web[0]):
                self.assertEqual(holds(web, world, found), holds(web, world, s), (web, world, s))
        self.assertGreater(seen, 80)

    def test_where_it_holds_nowhere(self):
        web = (2, (("h", ((0, 1),)),), (("a", (1,)),))
        for s in (told(F, A), told(F, F), told(both(A, no(A)), must("h", B)), told(A, may("h", T)), told(no(A), may("h", A))):
            for world in range(2):
                self.assertEqual(holds(web, world, told_out(s)), holds(web, world, s))

    def test_told_out_again(self):
        for s in some_sayings(873, 60, with_told=True):
            self.assertEqual(told_out(told_out(s)), told_out(s))

    def test_by_name(self):
        self.assertEqual(told_out(saying=told(A, B)), so(A, B))
