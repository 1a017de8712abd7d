"""[30], [31]: all small WEBS gone through."""

import itertools
import unittest

from mustmays.lettersput import letters_put
from mustmays.smallwebs import first_against
from tests.plainly import (
    A, B, F, LET_RULES, T, both, either, holds, house_of, houses_of_two, is_of, is_web, may, must, no, parts, so,
    some_sayings, subsets, told, webs_of)


def plain_first(house, s, worlds):
    """The least pair of the fewest WORLDS: all are gone through, and the least of those that fit is taken."""
    words = sorted({part[1] for part in parts(s) if part[0] == "letter"})
    for many in range(1, worlds + 1):
        found = [(web, w) for web in webs_of(house, many, words) for w in range(many) if not holds(web, w, s)]
        if found:
            return min(found)
    return None


class FirstAgainst(unittest.TestCase):
    def check(self, house, s, worlds, wanted):
        self.assertEqual(first_against(house, s, worlds=worlds), wanted, (house, s))
        self.assertEqual(plain_first(house, s, worlds), wanted, (house, s))

    def test_one_world(self):
        self.check(house_of(()), F, 1, ((1, (), ()), 0))
        self.check(house_of(("self",)), A, 1, ((1, (("h", ((0, 0),)),), ()), 0))
        self.check(house_of(()), no(A), 1, ((1, (), (("a", (0,)),)), 0))
        self.check(house_of(()), T, 1, None)
        self.check(house_of(()), may("h", T), 1, ((1, (), ()), 0))
        self.check(house_of(("step",)), may("h", T), 1, None)

    def test_of_one_world_none_of_two_one(self):
        s = so(A, must("h", A))
        self.check(house_of(()), s, 1, None)
        # More STEPS may be less: ((0, 0), (0, 1)) stands ahead of ((0, 1),).
        self.check(house_of(()), s, 2, ((2, (("h", ((0, 0), (0, 1))),), (("a", (0,)),)), 0))
        self.check(house_of(("ends", "on")), s, 2, ((2, (("h", ((0, 1),)),), (("a", (0,)),)), 0))
        for rules in (("self",), ("back", "self")):
            self.check(house_of(rules), s, 2, ((2, (("h", ((0, 0), (0, 1), (1, 0), (1, 1))),), (("a", (0,)),)), 0))

    def test_of_two_worlds_none_of_three_one(self):
        # "on" is asked of three WORLDS but where some are the same.
        s = so(must("h", A), must("h", must("h", A)))
        self.check(house_of(("self",)), s, 2, None)
        wanted = plain_first(house_of(("self",)), s, 3)
        self.assertEqual(wanted[0][0], 3)
        self.check(house_of(("self",)), s, 3, wanted)
        self.check(house_of(("on",)), s, 3, None)

    def test_the_least_pair(self):
        # STEPS first, then letters, then the WORLD.
        self.check(house_of(()), may("h", A), 2, ((1, (), ()), 0))
        self.check(house_of(()), both(A, may("h", T)), 1, ((1, (), ()), 0))
        s = either(A, must("h", F))
        self.check(house_of(()), s, 1, ((1, (("h", ((0, 0),)),), ()), 0))
        s = either(no(A), A, B)
        self.check(house_of(()), s, 2, None)
        two = ((("h", ()), ("k", ())), ())
        # With STEPS of h ahead of those of k it is less than with those of k alone.
        self.check(two, either(must("k", F), A), 1, ((1, (("h", ((0, 0),)), ("k", ((0, 0),))), ()), 0))
        self.check(two, either(must("k", F), may("h", T)), 1, ((1, (("k", ((0, 0),)),), ()), 0))
        self.check(two, so(must("k", F), must("h", F)), 1, ((1, (("h", ((0, 0),)),), ()), 0))
        # At WORLD 0 it holds.
        self.check(house_of(()), so(may("h", T), A), 2, ((1, (("h", ((0, 0),)),), ()), 0))

    def test_letters_of_the_saying_alone(self):
        found = first_against(house_of(()), so(A, both(A, B)))
        self.assertEqual(found, ((1, (), (("a", (0,)),)), 0))
        self.assertEqual(first_against(house_of(()), F), ((1, (), ()), 0))

    def test_bridges(self):
        hands = (("h", ()), ("k", ()))
        s = so(must("h", A), must("k", A))
        self.check((hands, (("h", "k"),)), s, 2, None)
        self.check((hands, (("k", "h"),)), s, 2, ((1, (("k", ((0, 0),)),), ()), 0))
        self.check((hands, ()), s, 2, ((1, (("k", ((0, 0),)),), ()), 0))

    def test_two_worlds_by_default(self):
        s = so(must("h", A), must("h", must("h", A)))
        self.assertIsNone(first_against(house_of(("self",)), s))
        self.assertIsNotNone(first_against(house_of(("self",)), s, worlds=3))
        self.assertEqual(first_against(house_of(()), so(A, must("h", A)))[0][0], 2)

    def test_told(self):
        s = so(A, told(may("h", T), may("h", A)))
        self.check(house_of(()), s, 2, plain_first(house_of(()), s, 2))
        self.check(house_of(()), told(A, A), 2, None)
        self.check(house_of(()), told(may("h", T), may("h", T)), 2,
                   plain_first(house_of(()), told(may("h", T), may("h", T)), 2))
        for s in some_sayings(890, 25, hands=("h",), words=("a",), with_told=True):
            self.check(house_of(("back",)), s, 2, plain_first(house_of(("back",)), s, 2))

    def test_one_hand(self):
        kinds = []
        for k, rules in enumerate(LET_RULES):
            for s in some_sayings(891 + k, 8, hands=("h",)):
                wanted = plain_first(house_of(rules), s, 2)
                kinds.append(wanted and wanted[0][0])
                self.check(house_of(rules), s, 2, wanted)
        self.assertLessEqual({None, 1, 2}, set(kinds))

    def test_three_worlds(self):
        kinds = []
        for k, rules in enumerate(LET_RULES[::4] + LET_RULES[-1:]):
            sayings = some_sayings(920 + k, 4, hands=("h",), words=("a",))
            sayings += [so(must("h", A), must("h", must("h", A))), so(may("h", A), must("h", may("h", A)))]
            for s in sayings:
                wanted = plain_first(house_of(rules), s, 3)
                kinds.append(wanted and wanted[0][0])
                self.check(house_of(rules), s, 3, wanted)
        self.assertLessEqual({None, 1, 3}, set(kinds))

    def test_two_hands(self):
        sayings = some_sayings(930, 60)
        for k, house in enumerate(list(houses_of_two())[::31]):
            s = sayings[k % 60]
            self.check(house, s, 1, plain_first(house, s, 1))
            if k % 4 == 0:
                self.check(house, s, 2, plain_first(house, s, 2))

    def test_none_is_told_just_where_it_holds_in_all(self):
        for k, rules in enumerate(LET_RULES[::3]):
            house = house_of(rules)
            # Whatever letters a WEB has besides.
            webs = [web for many in (1, 2) for web in webs_of(house, many, ("a", "b", "x"))][::5]
            for s in some_sayings(940 + k, 10, hands=("h",)) + [so(must("h", both(A, B)), must("h", A))]:
                found = first_against(house, s)
                if found is None:
                    self.assertTrue(all(holds(web, w, s) for web in webs for w in range(web[0])))
                else:
                    self.assertTrue(is_web(found[0]) and is_of(house, found[0]))
                    self.assertFalse(holds(*found, s))

    def test_letters_put_one_to_one(self):
        puts = (("a", ("letter", "x")), ("b", ("letter", "y")))
        for s in some_sayings(950, 40, hands=("h",)):
            found = first_against(house_of(()), s)
            turned = first_against(house_of(()), letters_put(s, puts))
            self.assertEqual(found is None, turned is None)
            if found is not None:
                (many, steps, letters), world = found
                put = tuple(({"a": "x", "b": "y"}[word], worlds) for word, worlds in letters)
                self.assertEqual(turned, ((many, steps, put), world))

    def test_worlds_by_its_name_alone(self):
        with self.assertRaises(TypeError):
            first_against(house_of(()), A, 2)
        self.assertEqual(first_against(saying=F, worlds=1, house=house_of(())), ((1, (), ()), 0))

    def test_kinds(self):
        found = first_against(house_of(()), so(A, must("h", A)))
        self.assertIs(type(found), tuple)
        self.assertIs(type(found[1]), int)
        self.assertTrue(is_web(found[0]))

    def test_what_is_handed_in_stays(self):
        house, s = house_of(("self",)), so(A, must("h", A))
        self.assertEqual(first_against(house, s), first_against(house, s))
        self.assertEqual((house, s), (house_of(("self",)), so(A, must("h", A))))


class AllOfThem(unittest.TestCase):
    def test_pairs_rise_as_python_sorts_them(self):
        # Each WEB of two WORLDS and one HAND is the first for a saying that is false in it alone, or a lesser one.
        pairs = list(itertools.product(range(2), repeat=2))
        webs = []
        for some in subsets(pairs):
            for worlds in subsets(range(2)):
                webs.append((2, (("h", some),) if some else (), (("a", worlds),) if worlds else ()))
        self.assertEqual(sorted(webs), sorted(webs_of(house_of(()), 2, ("a",))))
        for s in some_sayings(960, 30, hands=("h",), words=("a",)):
            false = [(web, w) for web in sorted(webs) for w in (0, 1) if not holds(web, w, s)]
            found = first_against(house_of(()), s)
            if found is not None and found[0][0] == 2:
                self.assertEqual(found, false[0] if ("letter", "a") in parts(s) else found)
