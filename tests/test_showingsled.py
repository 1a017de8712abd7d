"""[61] to [63]: SHOWINGS LED to HOUSES that make the same RULES."""

import itertools
import unittest

from mustmays.answering import answered
from mustmays.beneath import is_beneath
from mustmays.errors import NoPaper, NoRules
from mustmays.showingsled import showing_led
from mustmays.showjudge import lets_showing
from tests.judges import beneath, bent_ones, led_by, let_houses, made, scheme, showing_refusal
from tests.plainly import (
    A, B, C, F, LET_RULES, T, both, either, house_of, houses_of_two, may, must, no, so, some_sayings)

FIVE = both(A, B, so(C, ("letter", "d")), no(("letter", "e")))
BODIES = (A, F, T, must("h", A), no(must("h", no(A))), FIVE, both(must("h", A), must("h", must("h", B)), B))


def rule_row(word, hand, p, step_p=None):
    s = scheme((((hand, (word,)),), ()), word, hand, p)
    return (s, ("rule", word, hand, p if step_p is None else step_p))


def said_by(row):
    return row[0]


def bridge_row(one, other, p):
    return (so(must(one, p), must(other, p)), ("bridge", one, other, p))


def led_refusal(one, other, showing):
    """[63]: the class, the word and the HAND or the place of the first refusal; None where there is none."""
    there = dict(other[0])
    for hand, rules in one[0]:
        if hand not in there:
            return (NoRules, "hand", hand)
        for word in rules:
            if word not in made(other, hand):
                return (NoRules, word, hand)
    for ahead, behind in one[1]:
        if behind not in led_by(other[1], ahead):
            return (NoRules, "bridge", ahead)
    found = showing_refusal(one, showing)
    return found and (NoPaper,) + found


class ShowingsLed(unittest.TestCase):
    def check(self, one, other, showing, plainly_too=True):
        """By the words of what is told: let by in the other HOUSE, of the same SAYING, none by a name."""
        self.assertIsNone(led_refusal(one, other, showing) if plainly_too else None, (one, other, showing))
        found = showing_led(one, other, showing)
        self.assertIs(type(found), tuple)
        self.assertEqual(lets_showing(other, found), showing[-1][0], (one, other, showing))
        if plainly_too:
            self.assertIsNone(showing_refusal(other, found), (one, other, found))
        self.assertNotIn("by", [why[0] for s, why in found])
        return found

    def refuse(self, one, other, showing, wanted):
        self.assertEqual(led_refusal(one, other, showing), wanted, (one, other, showing))
        with self.assertRaises(wanted[0]) as caught:
            showing_led(one, other, showing)
        refusal = caught.exception
        self.assertIs(type(refusal), wanted[0])
        fields = (refusal.word, refusal.hand if wanted[0] is NoRules else refusal.at)
        self.assertEqual(fields, wanted[1:])

    def test_to_the_same_house(self):
        house = ((("h", ("on", "self")), ("k", ("on",))), (("h", "k"),))
        rows = (rule_row("self", "h", A), (must("k", said_by(rule_row("self", "h", A))), ("must", 0, "k", 0)),
                bridge_row("h", "k", B), (T, ("from", ())), (either(A, T), ("from", (0, 3))))
        for many in range(1, 6):
            self.check(house, house, rows[:many])

    def test_rules_that_are_there(self):
        for rules in LET_RULES:
            for word in rules:
                for p in BODIES:
                    row = rule_row(word, "h", p)
                    self.assertEqual(self.check(house_of(rules), house_of(rules), (row,)), (row,))

    def test_rules_that_are_made_but_not_there(self):
        led = set()
        for rules, others in itertools.product(LET_RULES, repeat=2):
            one, other = house_of(rules), house_of(others)
            if beneath(one, other):
                for word in rules:
                    if word not in others:
                        led.add(word)
                    for p in BODIES:
                        self.check(one, other, (rule_row(word, "h", p),), plainly_too=p in (A, BODIES[-1]))
        self.assertEqual(led, {"step", "self", "back", "round"})

    def test_step_by_bridges(self):
        for hands, bridges in (
                ((("h", ()), ("k", ("step",))), (("h", "k"),)),
                ((("h", ("back", "on")), ("k", ("step",))), (("h", "k"),)),
                ((("h", ("self",)), ("k", ("self",))), (("h", "k"),)),
                ((("h", ("self",)), ("j", ("self",)), ("k", ("self",))), (("h", "j"), ("j", "k"))),
                ((("h", ("back", "on")), ("j", ("on",)), ("k", ("step",))), (("h", "j"), ("j", "k"))),
                ((("h", ("back", "on")), ("j", ()), ("k", ("step",))), (("h", "j"), ("h", "k")))):
            other = (hands, bridges)
            for word in made(other, "h"):
                rules = (word,) if word != "round" else ("on", "round")
                for p in BODIES:
                    found = self.check(house_of(rules), other, (rule_row(word, "h", p),))
                    self.assertLessEqual(len(found), 12)

    def test_p_of_step_has_whatever_hands(self):
        for other in (house_of(("step",)), house_of(("self",)), ((("h", ()), ("k", ("step",))), (("h", "k"),)),
                      house_of(("on", "round", "self"))):
            found = self.check(house_of(("step",)), other, (rule_row("step", "h", A, may("zz", must("h", A))),))
            self.assertEqual(found[-1][0], no(must("h", F)))

    def test_bridges_one_behind_the_other(self):
        house = ((("h", ()), ("k", ())), (("h", "k"),))
        for middle in ("j", "i", "z"):
            hands = tuple(sorted((("h", ()), (middle, ()), ("k", ("step",)))))
            other = (hands, tuple(sorted((("h", middle), (middle, "k")))))
            for p in BODIES:
                found = self.check(house, other, (bridge_row("h", "k", p),))
                self.assertEqual(len(found), 3)
        self.assertEqual(self.check(house, house, (bridge_row("h", "k", A),)), (bridge_row("h", "k", A),))

    def test_many_bridges(self):
        names = "abcdefghijklmnopqrst"
        other = (tuple((name, ()) for name in names), tuple(zip(names, names[1:])))
        one = ((("a", ()), ("t", ())), (("a", "t"),))
        self.check(one, other, (bridge_row("a", "t", A),), plainly_too=False)
        other = (other[0][:-1] + (("t", ("step",)),), other[1])
        self.check(house_of(("step",), "a"), other, (rule_row("step", "a", A),), plainly_too=False)

    def test_musts_several_deep(self):
        p = so(A, so(B, so(C, A)))
        rows = [(so(A, so(B, so(C, A))), ("from", ()))]
        rows.append((so(must("h", A), so(must("h", B), so(must("h", C), must("h", A)))), ("must", 0, "h", 3)))
        rows.append((so(must("h", A), so(must("h", B), must("h", so(C, A)))), ("must", 0, "h", 2)))
        rows.append((must("h", p), ("must", 0, "h", 0)))
        rows.append(rule_row("back", "h", p))
        rows.append((said_by(rows[1]), ("must", 0, "h", 3)))
        for many in range(1, 7):
            self.check(house_of(("back",)), house_of(("on", "round", "self")), tuple(rows[:many]))

    def test_rows_are_called_anew(self):
        one, other = house_of(("back", "step")), house_of(("on", "round", "self"))
        rows = (
            rule_row("back", "h", A), rule_row("step", "h", B), (T, ("from", ())), rule_row("back", "h", B),
            (must("h", said_by(rule_row("back", "h", A))), ("must", 0, "h", 0)),
            (both(said_by(rule_row("back", "h", A)), said_by(rule_row("back", "h", B))), ("from", (0, 3))),
            (both(no(must("h", F)), T), ("from", (1, 2))))
        for many in range(1, 8):
            self.check(one, other, rows[:many])

    def test_the_same_saying_in_several_rows(self):
        one, other = house_of(("back", "step")), house_of(("on", "round", "self"))
        back = rule_row("back", "h", A)
        for rows in (
                (back, back), (back, back, (back[0], ("from", (0, 1)))), (back, (T, ("from", ())), back),
                (back, (T, ("from", (0,))), (back[0], ("from", (0, 1)))),
                (rule_row("step", "h", A), rule_row("step", "h", B), (must("h", no(must("h", F))), ("must", 1, "h", 0))),
                ((T, ("from", ())), (T, ("from", (0,))), (both(T, T), ("from", (0, 1))))):
            self.check(one, other, rows)

    def test_what_is_shown_is_led(self):
        many = 0
        for k, (one, other) in enumerate(itertools.product(map(house_of, LET_RULES), repeat=2)):
            if beneath(one, other):
                for s in some_sayings(830 + k, 4, hands=("h",), most_atoms=3) + [so(must("h", both(A, B)), must("h", A))]:
                    found = answered(one, s)
                    if found[0] == "shown":
                        many += 1
                        self.check(one, other, found[1], plainly_too=k % 5 == 0)
        self.assertGreater(many, 150)

    def test_houses_of_two_and_three(self):
        many = 0
        houses = list(houses_of_two())[::7] + let_houses(840, 60)
        pairs = [(one, other) for one, other in itertools.product(houses, repeat=2) if beneath(one, other)]
        for k, (one, other) in enumerate(pairs):
            rows = [rule_row(word, hand, p) for hand, rules in one[0] for word in rules for p in (A, must(hand, B))]
            rows += [bridge_row(ahead, behind, must(ahead, A)) for ahead, behind in one[1]]
            rows.append((so(rows[0][0], rows[-1][0]) if rows else T, ("from", (len(rows) - 1,) if rows else ())))
            many += len(rows)
            self.check(one, other, tuple(rows), plainly_too=k % 11 == 0)
        self.assertGreater(many, 3000)

    def test_not_beneath(self):
        thing = ((T, ("from", ())),)
        on, free = house_of(("on",)), house_of(())
        self.refuse(on, free, thing, (NoRules, "on", "h"))
        self.refuse(house_of(("back", "on", "step")), house_of(("back",)), thing, (NoRules, "on", "h"))
        self.refuse(house_of(("back", "on", "step")), house_of(("on",)), thing, (NoRules, "back", "h"))
        self.refuse(house_of(("self",)), house_of(("step",)), thing, (NoRules, "self", "h"))
        self.refuse(house_of(("ends", "on")), on, thing, (NoRules, "ends", "h"))
        self.refuse(on, house_of(("on",), "k"), thing, (NoRules, "hand", "h"))

    def test_hand_by_hand(self):
        thing = ((T, ("from", ())),)
        one = ((("a", ("on",)), ("b", ("self",)), ("c", ())), (("b", "c"),))
        self.refuse(one, ((("a", ()), ("c", ())), ()), thing, (NoRules, "on", "a"))
        self.refuse(one, ((("b", ()), ("c", ())), ()), thing, (NoRules, "hand", "a"))
        self.refuse(one, ((("a", ("on",)), ("c", ())), ()), thing, (NoRules, "hand", "b"))
        self.refuse(one, ((("a", ("on",)), ("b", ("self",))), ()), thing, (NoRules, "hand", "c"))
        self.refuse(one, (one[0], ()), thing, (NoRules, "bridge", "b"))
        self.refuse(one, ((("a", ("on",)), ("b", ("step",)), ("c", ())), (("b", "c"),)), thing, (NoRules, "self", "b"))

    def test_the_first_bridge_that_is_not_led(self):
        hands = (("a", ()), ("b", ()), ("c", ()))
        thing = ((T, ("from", ())),)
        one = (hands, (("a", "b"), ("a", "c"), ("b", "c")))
        self.refuse(one, (hands, ()), thing, (NoRules, "bridge", "a"))
        self.refuse(one, (hands, (("a", "b"),)), thing, (NoRules, "bridge", "a"))
        self.refuse(one, (hands, (("a", "b"), ("a", "c"))), thing, (NoRules, "bridge", "b"))
        self.refuse((hands, (("b", "c"),)), (hands, (("c", "b"),)), thing, (NoRules, "bridge", "b"))
        self.check(one, (hands, (("a", "b"), ("b", "c"))), (bridge_row("a", "c", A),))

    def test_rules_go_ahead_of_the_showing(self):
        for thing in (None, (), ((A, ("from", ())),), ((must("x", A), ("by", "a")),)):
            self.refuse(house_of(("on",)), house_of(()), thing, (NoRules, "on", "h"))

    def test_as_a_showing_is_refused(self):
        one, other = house_of(("step",)), house_of(("on", "self"))
        for thing, word, at in (
                (None, "shape", -1), ((), "shape", -1), ([(T, ("from", ()))], "shape", -1),
                (((T, ("from", (True,))),), "shape", -1), (((must("k", A), ("from", ())),), "hand", 0),
                (((T, ("from", (0,))),), "row", 0), (((A, ("from", ())),), "from", 0),
                (((T, ("from", ())), (must("h", A), ("must", 0, "h", 0))), "must", 1),
                # There, but not in the former.
                ((rule_row("self", "h", A),), "rule", 0), ((bridge_row("h", "h", A),), "bridge", 0)):
            self.refuse(one, other, thing, (NoPaper, word, at))

    def test_rows_by_names_are_refused(self):
        for at in range(2):
            rows = ((T, ("from", ())),) * at + ((A, ("by", "a")),)
            self.refuse(house_of(("step",)), house_of(("self",)), rows, (NoPaper, "by", at))

    def test_bent_ones(self):
        one, other = house_of(("back", "on", "step")), house_of(("on", "round", "self"))
        rows = (rule_row("back", "h", A), rule_row("step", "h", B),
                (must("h", said_by(rule_row("back", "h", A))), ("must", 0, "h", 0)),
                (both(said_by(rule_row("back", "h", A)), no(must("h", F))), ("from", (0, 1))))
        words = set()
        for thing in bent_ones(850, [rows], 800):
            wanted = led_refusal(one, other, thing)
            words.add(wanted and wanted[1])
            if wanted is None:
                self.check(one, other, thing)
            else:
                self.refuse(one, other, thing, wanted)
        self.assertLessEqual({None, "shape", "row", "from", "must", "rule"}, words)

    def test_long_showings(self):
        one, other = house_of(("back", "step")), house_of(("on", "round", "self"))
        words = [("letter", x + y) for x in "abcdefghijklmnopqrst" for y in "abcdefghijklmnopqrst"]
        rows = tuple(rule_row("back", "h", word) for word in words)
        self.assertEqual(len(rows), 400)
        found = self.check(one, other, rows, plainly_too=False)
        # What was told here may be handed in again, whatever its size.
        self.check(other, house_of(("back", "on", "step")), found, plainly_too=False)

    def test_many_outer_atoms(self):
        # A SAYING of seventeen, MUSTED, stands in two rows: it FOLLOWS from none, itself neither.
        words = [("letter", "x" + sign) for sign in "abcdefghijklmnop"]
        rows = [(T, ("from", ()))]
        said = must("h", T)
        for k, word in enumerate(words):
            rows.append((so(word, said_by(rows[-1])), ("from", (k,))))
            said = so(must("h", word), said)
        rows.append((said, ("must", 16, "h", 16)))
        copied = (*rows, (said, ("from", (17,))))
        self.assertEqual(led_refusal(house_of(()), house_of(()), copied), (NoPaper, "from", 18))
        self.check(house_of(()), house_of(("on",)), tuple(rows), plainly_too=False)
        again = (*rows, (T, ("from", ())), rows[-1])
        found = self.check(house_of(()), house_of(("on",)), again, plainly_too=False)
        self.assertEqual(said_by(found[-1]), said)

    def test_stays_one_with_more(self):
        # [57]: with more HANDS, RULES, bridges.
        one = house_of(("back", "step"))
        rows = (rule_row("back", "h", A), rule_row("step", "h", B))
        other = house_of(("on", "round", "self"))
        found = self.check(one, other, rows)
        for more in (
                ((("a", ()), ("h", ("on", "round", "self"))), ()),
                ((("a", ("on",)), ("h", ("on", "round", "self"))), (("h", "a"),)),
                house_of(("back", "on", "round", "self", "step"))):
            self.assertEqual(lets_showing(more, found), rows[-1][0])
            self.check(other, more, found)

    def test_beneath_are_those_to_which_all_is_led(self):
        for one, other in itertools.product(let_houses(851, 30), repeat=2):
            thing = ((T, ("from", ())),)
            if is_beneath(one, other):
                self.check(one, other, thing)
            else:
                self.refuse(one, other, thing, led_refusal(one, other, thing))

    def test_by_name_in_another_order(self):
        one, other = house_of(("step",)), house_of(("self",))
        found = showing_led(showing=(rule_row("step", "h", A),), other=other, one=one)
        self.assertEqual(lets_showing(other, found), no(must("h", F)))
        with self.assertRaises(NoRules):
            showing_led(showing=(rule_row("self", "h", A),), other=one, one=other)

    def test_what_is_handed_in_stays(self):
        one, other = house_of(("step",)), house_of(("self",))
        thing = [[T, ["from", []]]]
        for _ in range(2):
            with self.assertRaises(NoPaper):
                showing_led(one, other, thing)
        self.assertEqual(thing, [[T, ["from", []]]])
