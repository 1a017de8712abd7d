"""[7], [15]: CORES, ATOMS, and what a SORT tells."""

import unittest

from mustmays.atomkinds import atoms_of, core_of, sort_tells
from tests import plainly
from tests.plainly import A, B, F, T, all_sorts, both, either, may, must, no, so, some_sayings, tells


class Cores(unittest.TestCase):
    def test_core(self):
        for s in (A, T, F, no(A), both(A, B), either(A), so(A, B), must("h", no(A))):
            self.assertEqual(core_of(s), s)
        self.assertEqual(core_of(may("h", A)), no(must("h", no(A))))
        self.assertEqual(core_of(may("h", may("k", A))), no(must("h", no(no(must("k", no(A)))))))
        self.assertEqual(core_of(may("h", F)), no(must("h", no(F))))
        for around in (no, both, either, lambda s: so(s, B), lambda s: so(B, s), lambda s: must("k", s)):
            self.assertEqual(core_of(around(may("h", A))), around(no(must("h", no(A)))))

    def test_core_of_a_core_is_it(self):
        for s in some_sayings(4, 100):
            self.assertEqual(core_of(s), plainly.core(s))
            self.assertEqual(core_of(core_of(s)), core_of(s))

    def test_deep(self):
        s = A
        for _ in range(30):
            s = may("h", s)
        self.assertEqual(len(atoms_of(s)), 31)
        self.assertEqual(core_of(core_of(s)), core_of(s))


class Atoms(unittest.TestCase):
    def test_atoms(self):
        self.assertEqual(atoms_of(A), (A,))
        self.assertEqual(atoms_of(T), ())
        self.assertEqual(atoms_of(no(either(F, T))), ())
        self.assertEqual(atoms_of(must("h", F)), (must("h", F),))
        self.assertEqual(atoms_of(both(B, A, B, no(A))), (A, B))
        self.assertEqual(atoms_of(may("h", A)), (A, must("h", no(A))))
        self.assertEqual(atoms_of(must("k", may("h", A))),
                         (A, must("h", no(A)), must("k", no(must("h", no(A))))))
        self.assertEqual(atoms_of(both(may("h", A), must("h", no(A)))), (A, must("h", no(A))))
        self.assertEqual(atoms_of(both(must("k", A), must("h", B))), (A, B, must("h", B), must("k", A)))

    def test_atoms_rise(self):
        for s in some_sayings(5, 200):
            self.assertEqual(atoms_of(s), tuple(plainly.atoms(s)))
            self.assertIs(type(atoms_of(s)), tuple)


class Tells(unittest.TestCase):
    def test_each_word(self):
        for a in (False, True):
            self.assertIs(sort_tells(A, (a,)), a)
            self.assertIs(sort_tells(no(A), (a,)), not a)
            self.assertIs(sort_tells(both(A), (a,)), a)
            self.assertIs(sort_tells(either(A), (a,)), a)
            for b in (False, True):
                self.assertIs(sort_tells(both(A, B), (a, b)), a and b)
                self.assertIs(sort_tells(either(A, B), (a, b)), a or b)
                self.assertIs(sort_tells(so(A, B), (a, b)), b or not a)
                self.assertIs(sort_tells(so(B, A), (a, b)), a or not b)
                self.assertIs(sort_tells(must("h", A), (a, b)), b)
                self.assertIs(sort_tells(may("h", A), (a, b)), not b)

    def test_nothing_barred_and_nothing_let(self):
        self.assertIs(sort_tells(T, ()), True)
        self.assertIs(sort_tells(F, ()), False)
        self.assertIs(sort_tells(no(T), ()), False)
        self.assertIs(sort_tells(so(T, F), ()), False)

    def test_must_is_as_the_sort_has_it(self):
        # A "must" of what can't fail may be false in a SORT: only ATOMS count.
        self.assertIs(sort_tells(must("h", T), (False,)), False)
        self.assertIs(sort_tells(may("h", F), (False,)), True)
        self.assertIs(sort_tells(may("h", F), (True,)), False)

    def test_many(self):
        for s in some_sayings(6, 60):
            for sort in all_sorts(s):
                told_here = sort_tells(s, sort)
                self.assertIs(told_here, tells(dict(zip(plainly.atoms(s), sort)), plainly.core(s)))

    def test_by_name_in_another_order(self):
        self.assertIs(sort_tells(sort=(True, False), saying=so(A, B)), False)
        self.assertEqual(core_of(saying=may("h", A)), core_of(may("h", A)))
        self.assertEqual(atoms_of(saying=may("h", A)), atoms_of(may("h", A)))

    def test_what_is_handed_in_stays(self):
        s, sort = both(may("h", A), B), (True, False, True)
        self.assertIs(sort_tells(s, sort), sort_tells(s, sort))
        self.assertEqual((s, sort), (both(may("h", A), B), (True, False, True)))
