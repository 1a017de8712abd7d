"""[16] to [18]: any thing looked at as a PARTING ROW."""

import unittest

from mustmays.errors import NoPaper
from mustmays.tablechecker import lets_parting_row
from mustmays.tabling import parting_row
from tests.judges import bent_ones, is_pair_of
from tests.papers import is_any_saying
from tests.plainly import (
    A, B, C, F, T, both, core, either, may, must, no, outer, so, some_sayings, tells, told)

M = must("h", A)


def row_refusal(sayings, s, x):
    """[17], in its order; None where it is let by."""
    if type(x) is not tuple or not all(
            is_pair_of(y) and is_any_saying(y[0]) and type(y[1]) is bool for y in x):
        return ("shape", -1)
    names = sorted(set().union(*[outer(core(t)) for t in [*sayings, s]]))
    if len(x) != len(names):
        return ("atoms", -1)
    for k, name in enumerate(names):
        if x[k][0] != name:
            return ("atom", k)
    for k, t in enumerate(sayings):
        if not tells(dict(x), core(t)):
            return ("false", k)
    return ("true", -1) if tells(dict(x), core(s)) else None


class TableChecker(unittest.TestCase):
    def check(self, sayings, s, thing, wanted):
        self.assertEqual(row_refusal(sayings, s, thing), wanted, (sayings, s, thing))
        for some in (tuple(sayings), list(sayings)):
            if wanted is None:
                self.assertIs(lets_parting_row(some, s, thing), True)
            else:
                with self.assertRaises(NoPaper) as caught:
                    lets_parting_row(some, s, thing)
                self.assertEqual((caught.exception.word, caught.exception.at), wanted, (sayings, s, thing))
                self.assertIs(type(caught.exception.at), int)

    def test_let_by(self):
        self.check((), A, ((A, False),), None)
        self.check((A,), B, ((A, True), (B, False)), None)
        self.check((M,), A, ((A, False), (M, True)), None)
        self.check((), F, (), None)
        self.check((T,), F, (), None)

    def test_no_saying_at_all(self):
        self.check((), T, (), ("true", -1))
        self.check((), either(A, no(A)), ((A, False),), ("true", -1))
        self.check((), no(A), ((A, True),), None)

    def test_shape(self):
        for thing in (
                None, True, 1, "row", [], [(A, False)], ([A, False],), ((A,),), ((A, False, 0),), ((A, 0),), ((A, 1),),
                ((A, None),), ((1, False),), (("letter", False),), ((["letter", "a"], False),), (A, False), ((False, A),),
                {}, ((A, "False"),), ((("letter", "A"), False),), (((A,), False),)):
            self.check((), A, thing, ("shape", -1))

    def test_shape_goes_ahead_of_all(self):
        self.check((), A, ((B, True), (A, False), (A, 0)), ("shape", -1))

    def test_told_by_kind(self):
        self.check((), A, ((told(A, B), False),), ("atom", 0))
        self.check((), A, ((no(told(A, B)), False),), ("atom", 0))

    def test_atoms(self):
        self.check((), A, (), ("atoms", -1))
        self.check((), A, ((A, False), (A, False)), ("atoms", -1))
        self.check((), A, ((A, False), (B, False)), ("atoms", -1))
        self.check((B,), A, ((A, False),), ("atoms", -1))
        self.check((), T, ((A, False),), ("atoms", -1))
        # A letter within a "must" alone is none of them.
        self.check((), M, ((A, False), (M, False)), ("atoms", -1))
        self.check((), M, ((M, False),), None)

    def test_atom(self):
        self.check((), A, ((B, False),), ("atom", 0))
        self.check((A,), B, ((B, False), (A, True)), ("atom", 0))
        self.check((A,), B, ((A, True), (A, False)), ("atom", 1))
        self.check((A,), B, ((A, True), (C, False)), ("atom", 1))
        self.check((A, M), B, ((A, True), (B, False), (must("k", A), True)), ("atom", 2))
        self.check((), may("h", A), ((may("h", A), False),), ("atom", 0))
        self.check((), may("h", A), ((must("h", no(A)), True),), None)

    def test_false(self):
        self.check((A,), B, ((A, False), (B, False)), ("false", 0))
        self.check((A, B), C, ((A, True), (B, False), (C, False)), ("false", 1))
        self.check((A, B), C, ((A, False), (B, False), (C, True)), ("false", 0))
        self.check((T, A), B, ((A, False), (B, True)), ("false", 1))
        self.check((F,), F, (), ("false", 0))

    def test_true(self):
        self.check((A,), B, ((A, True), (B, True)), ("true", -1))
        self.check((A,), A, ((A, True),), ("true", -1))
        self.check((A, so(A, B)), B, ((A, True), (B, True)), ("true", -1))

    def test_ten_outer_atoms(self):
        words = [("letter", sign) for sign in "abcdefghij"]
        row = tuple((word, word != words[-1]) for word in words)
        self.check(words[:9], words[9], row, None)
        self.assertEqual(parting_row(words[:9], words[9]), row)
        self.check(words[:9], words[9], row[:-1], ("atoms", -1))
        self.check(words[:9], words[9], row + row[-1:], ("atoms", -1))
        self.check(words[:9], words[9], row[:-2] + row[-2:][::-1], ("atom", 8))
        self.check(words[:9], words[9], row[:4] + ((words[4], False),) + row[5:], ("false", 4))

    def test_bent_ones(self):
        words = set()
        sayings = some_sayings(880, 150)
        for k in range(0, 150, 3):
            some, s = sayings[k:k + 2], sayings[k + 2]
            names = sorted(set().union(*[outer(core(t)) for t in [*some, s]]))
            row = parting_row(some, s)
            self.assertEqual(row is None, not any(
                row_refusal(some, s, thing) is None for thing in rows_of(names)))
            for thing in [row or ()] + bent_ones(881 + k, [row or tuple((name, True) for name in names)], 40):
                wanted = row_refusal(some, s, thing)
                words.add(wanted and wanted[0])
                self.check(some, s, thing, wanted)
        self.assertEqual(words, {None, "shape", "atoms", "atom", "false", "true"})

    def test_all_rows(self):
        sayings = some_sayings(882, 90, most_atoms=3)
        for k in range(0, 90, 3):
            some, s = sayings[k:k + 2], sayings[k + 2]
            names = sorted(set().union(*[outer(core(t)) for t in [*some, s]]))
            if len(names) <= 5:
                for thing in rows_of(names):
                    self.check(some, s, thing, row_refusal(some, s, thing))

    def test_by_name_in_another_order(self):
        self.assertIs(lets_parting_row(thing=((A, True), (B, False)), saying=B, sayings=[A]), True)

    def test_what_is_handed_in_stays(self):
        some, thing = [A], [[A, False]]
        for _ in range(2):
            with self.assertRaises(NoPaper):
                lets_parting_row(some, B, thing)
        self.assertEqual((some, thing), ([A], [[A, False]]))


def rows_of(names):
    rows = [()]
    for name in names:
        rows = [row + ((name, truth),) for row in rows for truth in (False, True)]
    return rows
