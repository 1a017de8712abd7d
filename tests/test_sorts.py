"""[7], [39]: SORTS of SAYINGS, what they tell, and those of WORLDS."""

import unittest

from mustmays.atomkinds import sort_tells
from mustmays.errors import NoWorld
from mustmays.sorts import is_sort, part_told, sort_at, sorts_of
from tests import plainly
from tests.plainly import A, B, F, T, all_sorts, both, either, may, must, no, so, some_sayings, some_webs, tells

WEB = (2, (("h", ((0, 1),)),), (("a", (1,)),))


class Sorts(unittest.TestCase):
    def test_sorts(self):
        self.assertEqual(sorts_of(T), ((),))
        self.assertEqual(sorts_of(no(either(F))), ((),))
        self.assertEqual(sorts_of(A), ((False,), (True,)))
        self.assertEqual(sorts_of(both(A, A)), ((False,), (True,)))
        self.assertEqual(sorts_of(may("h", A)), ((False, False), (False, True), (True, False), (True, True)))

    def test_sorts_rise_and_are_all(self):
        for s in some_sayings(11, 60, most_atoms=6):
            self.assertEqual(sorts_of(s), tuple(all_sorts(s)))
            for sort in sorts_of(s):
                self.assertIs(type(sort), tuple)
                self.assertTrue(all(type(truth) is bool for truth in sort))

    def test_is_sort(self):
        for thing in sorts_of(both(A, B)):
            self.assertIs(is_sort(both(A, B), thing), True)
        self.assertIs(is_sort(T, ()), True)
        for thing in (None, True, False, 0, 1, "", "ab", (), [], (True,), (True, False, True), [True, False],
                      (1, 0), (True, 0), (1, False), (True, None), (True, "a"), ((True, False),), (True, (False,)),
                      (True, [])):
            self.assertIs(is_sort(both(A, B), thing), False, thing)
        for thing in (None, True, False, 0, "", [], ((),), (True,)):
            self.assertIs(is_sort(T, thing), False, thing)
        self.assertIs(is_sort(A, (1,)), False)
        self.assertIs(is_sort(A, (0,)), False)
        self.assertIs(is_sort(A, True), False)

    def test_any_thing_deep_and_large(self):
        deep = ()
        for _ in range(29):
            deep = (deep,)
        self.assertIs(is_sort(A, deep), False)
        self.assertIs(is_sort(A, (True,) * 4999), False)


class PartTold(unittest.TestCase):
    def test_parts(self):
        s = must("h", so(A, B))
        # ATOMS: a, b, the "must".
        self.assertIs(part_told(s, (True, False, True), so(A, B)), False)
        self.assertIs(part_told(s, (True, False, True), s), True)
        self.assertIs(part_told(s, (True, False, True), A), True)
        self.assertIs(part_told(s, (True, False, True), B), False)
        self.assertIs(part_told(s, (True, False, True), T), True)
        self.assertIs(part_told(s, (True, False, True), F), False)
        self.assertIs(part_told(T, (), F), False)
        self.assertIs(part_told(T, (), T), True)

    def test_a_part_that_does_not_stand_there(self):
        s = may("h", A)
        for a in (False, True):
            for m in (False, True):
                self.assertIs(part_told(s, (a, m), must("h", no(A))), m)
                self.assertIs(part_told(s, (a, m), s), not m)
                self.assertIs(part_told(s, (a, m), either(A, may("h", A))), a or not m)

    def test_many(self):
        for s in some_sayings(12, 30):
            for sort in all_sorts(s):
                truths = dict(zip(plainly.atoms(s), sort))
                for part in plainly.parts(s):
                    self.assertIs(part_told(s, sort, part), tells(truths, plainly.core(part)))
                self.assertIs(part_told(s, sort, s), sort_tells(s, sort))


class SortAt(unittest.TestCase):
    def test_sort_at(self):
        self.assertEqual(sort_at(WEB, A, 0), (False,))
        self.assertEqual(sort_at(WEB, A, 1), (True,))
        self.assertEqual(sort_at(WEB, may("h", A), 0), (False, False))
        self.assertEqual(sort_at(WEB, may("h", A), 1), (True, True))
        self.assertEqual(sort_at(WEB, must("x", F), 0), (True,))
        self.assertEqual(sort_at(WEB, B, 1), (False,))
        self.assertEqual(sort_at(WEB, T, 0), ())
        self.assertEqual(sort_at(WEB, F, 1), ())

    def test_what_it_tells_holds(self):
        for s, web in zip(some_sayings(13, 60), some_webs(14, 60)):
            for world in range(web[0]):
                sort = sort_at(web, s, world)
                self.assertIs(is_sort(s, sort), True)
                self.assertEqual(sort, tuple(plainly.holds(web, world, m) for m in plainly.atoms(s)))
                self.assertIs(part_told(s, sort, s), plainly.holds(web, world, s))

    def test_no_world(self):
        for s in (A, T, F, may("h", A)):
            for world in (-1, 2, 10 ** 59):
                with self.assertRaises(NoWorld) as caught:
                    sort_at(WEB, s, world)
                self.assertIs(caught.exception.world, world)

    def test_by_name_in_another_order(self):
        self.assertEqual(sorts_of(saying=A), sorts_of(A))
        self.assertIs(is_sort(thing=(True,), saying=A), True)
        self.assertIs(part_told(part=B, sort=(True, False), saying=both(A, B)), False)
        self.assertEqual(sort_at(world=1, saying=may("h", A), web=WEB), (True, True))

    def test_what_is_handed_in_stays(self):
        thing = [True, False]
        self.assertIs(is_sort(both(A, B), thing), is_sort(both(A, B), thing))
        self.assertEqual(thing, [True, False])
        self.assertEqual(sort_at(WEB, A, 1), sort_at(WEB, A, 1))
        self.assertEqual(WEB, (2, (("h", ((0, 1),)),), (("a", (1,)),)))
