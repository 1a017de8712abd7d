"""[54]: SCHEMES of RULES and bridges."""

import unittest

from mustmays.deciding import decided
from mustmays.ruleschemes import bridge_scheme, scheme_of
from tests.plainly import A, B, F, LET_RULES, both, holds, house_of, may, must, no, so, some_sayings, webs_of


class RuleSchemes(unittest.TestCase):
    def test_each(self):
        for p in (A, F, may("k", both(A, B)), no(must("h", A))):
            m = must("h", p)
            for word, scheme in (
                    ("step", no(must("h", F))),
                    ("self", so(m, p)),
                    ("on", so(m, must("h", m))),
                    ("back", so(no(p), must("h", no(m)))),
                    ("round", so(no(m), must("h", no(m)))),
                    ("ends", so(must("h", so(m, p)), m))):
                for rules in LET_RULES:
                    if word in rules:
                        self.assertEqual(scheme_of(house_of(rules), "h", word, p), scheme)
                    else:
                        self.assertIsNone(scheme_of(house_of(rules), "h", word, p))

    def test_none(self):
        house = ((("h", ("on",)), ("k", ("self",))), (("h", "k"),))
        self.assertIsNone(scheme_of(house, "h", "self", A))
        self.assertIsNone(scheme_of(house, "k", "on", A))
        self.assertIsNone(scheme_of(house, "x", "on", A))
        self.assertIsNone(scheme_of(house, "on", "h", A))
        for word in ("", "ON", "on ", "h", "must", "bridge", "o" * 4000):
            self.assertIsNone(scheme_of(house, "h", word, A))
        self.assertEqual(scheme_of(house, "k", "self", A), so(must("k", A), A))

    def test_step_of_whatever_hands(self):
        self.assertEqual(scheme_of(house_of(("step",)), "h", "step", may("x", A)), no(must("h", F)))

    def test_they_hold(self):
        for rules in LET_RULES:
            house = house_of(rules)
            webs = list(webs_of(house, 2, ("a",)))
            for p in some_sayings(230, 6, hands=("h",), words=("a",)):
                for word in rules:
                    s = scheme_of(house, "h", word, p)
                    self.assertTrue(all(holds(web, w, s) for web in webs for w in range(2)))

    def test_they_are_decided_down(self):
        for rules in LET_RULES:
            for word in rules:
                house = house_of(rules)
                self.assertEqual(decided(house, scheme_of(house, "h", word, A))[0], "down")

    def test_by_name_in_another_order(self):
        self.assertEqual(scheme_of(saying=A, word="self", hand="h", house=house_of(("self",))), so(must("h", A), A))


class BridgeSchemes(unittest.TestCase):
    HOUSE = ((("h", ()), ("j", ()), ("k", ())), (("h", "j"), ("j", "k")))

    def test_bridges(self):
        self.assertEqual(bridge_scheme(self.HOUSE, "h", "j", A), so(must("h", A), must("j", A)))
        self.assertEqual(bridge_scheme(self.HOUSE, "j", "k", may("h", A)),
                         so(must("j", may("h", A)), must("k", may("h", A))))

    def test_none(self):
        for one, other in (("j", "h"), ("h", "k"), ("h", "h"), ("x", "j"), ("h", "x"), ("x", "y")):
            self.assertIsNone(bridge_scheme(self.HOUSE, one, other, A))
        self.assertIsNone(bridge_scheme(house_of(()), "h", "h", A))

    def test_by_name_in_another_order(self):
        self.assertEqual(bridge_scheme(saying=A, other="j", one="h", house=self.HOUSE),
                         so(must("h", A), must("j", A)))

    def test_they_are_decided_down(self):
        self.assertEqual(decided(self.HOUSE, bridge_scheme(self.HOUSE, "h", "j", A))[0], "down")

    def test_what_is_handed_in_stays(self):
        house = ((("h", ()), ("k", ())), (("h", "k"),))
        self.assertEqual(bridge_scheme(house, "h", "k", A), bridge_scheme(house, "h", "k", A))
        self.assertEqual(house, ((("h", ()), ("k", ())), (("h", "k"),)))
