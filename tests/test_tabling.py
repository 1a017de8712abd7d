"""[16]: OUTER ATOMS, and PARTING ROWS by the document's own words."""

import itertools
import unittest

from mustmays.tabling import outer_atoms, parting_row
from tests.plainly import A, B, C, F, T, both, core, either, may, must, no, outer, so, some_sayings, tells


def plain_outer(sayings):
    return tuple(sorted(set().union(*[outer(core(s)) for s in sayings])))


class OuterAtoms(unittest.TestCase):
    def test_outer_atoms(self):
        self.assertEqual(outer_atoms(()), ())
        self.assertEqual(outer_atoms([]), ())
        self.assertEqual(outer_atoms((T, no(F))), ())
        self.assertEqual(outer_atoms((B, A)), (A, B))
        self.assertEqual(outer_atoms([B, so(A, B)]), (A, B))
        self.assertEqual(outer_atoms((both(C, no(either(A, B))), C)), (A, B, C))

    def test_within_a_must_alone(self):
        self.assertEqual(outer_atoms((must("h", A),)), (must("h", A),))
        self.assertEqual(outer_atoms((must("h", must("k", A)), B)), (B, must("h", must("k", A))))
        self.assertEqual(outer_atoms((may("h", A),)), (must("h", no(A)),))
        self.assertEqual(outer_atoms((may("h", may("k", A)),)), (must("h", no(no(must("k", no(A))))),))

    def test_within_a_must_and_outside(self):
        self.assertEqual(outer_atoms((must("h", A), A)), (A, must("h", A)))
        self.assertEqual(outer_atoms((must("h", must("k", A)), must("k", A))),
                         (must("h", must("k", A)), must("k", A)))

    def test_many(self):
        sayings = some_sayings(20, 60)
        for k in range(0, 60, 3):
            some = sayings[k:k + 3]
            self.assertEqual(outer_atoms(some), plain_outer(some))
            self.assertEqual(outer_atoms(tuple(some)), plain_outer(some))

    def test_by_name(self):
        self.assertEqual(outer_atoms(sayings=[A]), (A,))
        self.assertIs(type(outer_atoms([A])), tuple)


class PartingRows(unittest.TestCase):
    def check_row(self, sayings, saying, row):
        """By the words: a ROW in which they all are true, the one isn't."""
        atoms = plain_outer([*sayings, saying])
        self.assertIs(type(row), tuple)
        for pair in row:
            self.assertIs(type(pair), tuple)
            self.assertEqual(len(pair), 2)
            self.assertIs(type(pair[1]), bool)
        self.assertEqual(tuple(atom for atom, truth in row), atoms)
        for s in sayings:
            self.assertTrue(tells(dict(row), core(s)))
        self.assertFalse(tells(dict(row), core(saying)))

    def follows(self, sayings, saying):
        atoms = plain_outer([*sayings, saying])
        for truths in itertools.product((False, True), repeat=len(atoms)):
            row = dict(zip(atoms, truths))
            if all(tells(row, core(s)) for s in sayings) and not tells(row, core(saying)):
                return False
        return True

    def check(self, sayings, saying, follows):
        self.assertIs(self.follows(sayings, saying), follows)
        for some in (tuple(sayings), list(sayings)):
            row = parting_row(some, saying)
            if follows:
                self.assertIsNone(row)
            else:
                self.check_row(some, saying, row)

    def test_from_nothing(self):
        self.check((), T, True)
        self.check((), either(A, no(A)), True)
        self.check((), F, False)
        self.assertEqual(parting_row((), F), ())
        self.check((), A, False)
        self.assertEqual(parting_row([], A), ((A, False),))

    def test_from_some(self):
        self.check((A,), A, True)
        self.check((A, so(A, B)), B, True)
        self.check((so(A, B), so(B, C)), so(A, C), True)
        self.check((so(A, B), so(B, C)), so(C, A), False)
        self.check((either(A, B), no(A)), B, True)
        self.check((either(A, B),), A, False)
        self.check((F,), A, True)
        self.check((A, no(A)), F, True)
        self.check((B,), either(A, B), True)

    def test_musts_are_looked_at_from_outside(self):
        self.check((), must("h", T), False)
        self.check((must("h", both(A, B)),), must("h", A), False)
        self.check((must("h", A),), no(may("h", no(A))), False)
        self.check((may("h", A),), no(must("h", no(A))), True)
        self.check((must("h", A), so(must("h", A), A)), A, True)
        self.check((must("h", A),), A, False)

    def test_premises_without_the_one(self):
        self.check((A,), B, False)
        self.check((A, B), must("k", C), False)
        self.assertEqual(parting_row((A,), B), ((A, True), (B, False)))

    def test_ten_outer_atoms(self):
        words = [("letter", sign) for sign in "abcdefghij"]
        chain = [so(x, y) for x, y in zip(words, words[1:])]
        self.check(chain, so(words[0], words[-1]), True)
        self.check(chain[1:], so(words[0], words[-1]), False)
        self.check(chain, so(words[-1], words[0]), False)
        self.check([either(*words)], both(*words), False)
        self.check([either(*words)] + [no(word) for word in words[:-1]], words[-1], True)

    def test_many(self):
        sayings = some_sayings(21, 240, most_atoms=3)
        both_kinds = set()
        for k in range(0, 240, 3):
            *some, saying = sayings[k:k + 3]
            follows = self.follows(some, saying)
            both_kinds.add(follows)
            self.check(some, saying, follows)
        self.assertEqual(both_kinds, {False, True})

    def test_by_name_in_another_order(self):
        self.assertEqual(parting_row(saying=B, sayings=[A]), ((A, True), (B, False)))

    def test_what_is_handed_in_stays(self):
        some = [A, so(A, B)]
        self.assertIsNone(parting_row(some, B))
        self.assertIsNone(parting_row(some, B))
        self.assertEqual(outer_atoms(some), outer_atoms(some))
        self.assertEqual(some, [A, so(A, B)])
