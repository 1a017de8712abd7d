"""[6], [27]: of any thing, whether it is RULES, a DRAFT, a HOUSE; of a DRAFT, whether it is a LET HOUSE."""

import itertools
import unittest

from mustmays.errors import NoRules
from mustmays.rulekinds import is_draft, is_house, is_rules, lets_draft
from tests.judges import WORDS, any_draft, any_house, any_rules, bent_ones, draft_refusal, drafts, let_houses
from tests.plainly import LET_RULES, houses_of_two

NO_DRAFTS = (
    None, 1, "", (), [], ((),), ((), ()), ((), (("h", "k"),)), ((("h", ()),),), ((("h", ()),), (), ()),
    [(("h", ()),), ()], ([("h", ())], ()), ((["h", ()],), ()), ((("h", []),), ()), ((("h", ()),), []),
    ((("h", ()), ("h", ())), ()), ((("k", ()), ("h", ())), ()), ((("h", ()), ("h", ("on",))), ()),
    ((("H", ()),), ()), ((("", ()),), ()), ((("abcdefghi", ()),), ()), (((1, ()),), ()),
    ((("h", ("on", "back")),), ()), ((("h", ("on", "on")),), ()), ((("h", ("must",)),), ()), ((("h", "on"),), ()),
    ((("h", ("on", True)),), ()), ((("h", (), ()),), ()), ((("h",),), ()), (("h", ()), ()),
    ((("h", ()),), (("h", "h", "h"),)), ((("h", ()),), ("hk",)), ((("h", ()),), (["h", "k"],)),
    ((("h", ()),), (("h", "K"),)), ((("h", ()),), (("h", 1),)), ((("h", ()),), (("h", "k"), ("h", "j"))),
    ((("h", ()),), (("h", "k"), ("h", "k"))), ((("h", ()),), ("h", "k")), ((("h", ()),), None),
)


class RuleKinds(unittest.TestCase):
    def test_rules(self):
        for many in range(7):
            for some in itertools.combinations(WORDS, many):
                self.assertIs(is_rules(some), True, some)
                self.assertIs(is_rules(list(some)), False)
                for turned in itertools.permutations(some):
                    self.assertIs(is_rules(turned), turned == some)

    def test_no_rules(self):
        for thing in (None, True, 0, "", "on", [], ("on", "on"), ("On",), ("must",), (True,), (0,), (None,), ((),),
                      (("on",),), (["on"],), ("back", 1), (1, "back"), ("on", "back"), ("on ",)):
            self.assertIs(is_rules(thing), False, thing)

    def test_bent_rules(self):
        things = bent_ones(310, [("back", "on", "self"), ("ends", "on"), ("on",), ()], 600)
        self.assertEqual([is_rules(thing) for thing in things], [any_rules(thing) for thing in things])

    def test_drafts(self):
        for thing in drafts(311, 200):
            self.assertIs(is_draft(thing), True, thing)
        for thing in (
                ((("h", ("round",)),), ()), ((("h", ("ends", "self")),), ()), ((("h", ()),), (("h", "h"),)),
                ((("h", ()),), (("a", "b"), ("x", "y"))), ((("h", ()), ("k", ())), (("h", "k"), ("k", "h"))),
                ((("h", WORDS),), ())):
            self.assertIs(is_draft(thing), True, thing)

    def test_no_drafts(self):
        for thing in NO_DRAFTS:
            self.assertIs(is_draft(thing), False, thing)
            self.assertIs(is_house(thing), False, thing)

    def test_houses(self):
        for thing in itertools.islice(houses_of_two(), 0, None, 7):
            self.assertIs(is_house(thing), True, thing)
        for thing in (
                # HOUSES that aren't LET: their bridges can't be so.
                ((("h", ()), ("k", ("on",))), (("h", "k"),)), ((("h", ()), ("k", ())), (("h", "k"), ("k", "h"))),
                ((("h", ("ends", "on")), ("k", ())), (("h", "k"),))):
            self.assertIs(is_house(thing), True, thing)

    def test_drafts_that_are_no_houses(self):
        for thing in (
                ((("h", ("round",)),), ()), ((("h", ("ends",)),), ()), ((("h", ("ends", "on", "self")),), ()),
                ((("h", ()), ("k", ("back", "round"))), ()), ((("h", ()),), (("h", "h"),)),
                ((("h", ()),), (("h", "k"),)), ((("h", ()),), (("k", "h"),)), ((("h", ()),), (("x", "y"),))):
            self.assertIs(is_draft(thing), True, thing)
            self.assertIs(is_house(thing), False, thing)

    def test_bent_ones(self):
        things = bent_ones(312, drafts(313, 200), 4000)
        found = [is_draft(thing) for thing in things]
        self.assertEqual(found, [any_draft(thing) for thing in things])
        self.assertTrue(400 < sum(found) < 3600, sum(found))
        found = [is_house(thing) for thing in things]
        self.assertEqual(found, [any_house(thing) for thing in things])
        self.assertTrue(200 < sum(found) < 3600, sum(found))


class LetsDraft(unittest.TestCase):
    def check_refused(self, draft, word, hand):
        with self.assertRaises(NoRules) as caught:
            lets_draft(draft)
        self.assertEqual((caught.exception.word, caught.exception.hand), (word, hand), draft)

    def test_let(self):
        for rules in LET_RULES:
            self.assertIs(lets_draft(((("h", rules),), ())), True)
        for house in let_houses(314, 100):
            self.assertIs(lets_draft(house), True)
        for house in houses_of_two():
            self.assertIs(lets_draft(house), True)

    def test_round_without_on(self):
        self.check_refused(((("h", ("round",)),), ()), "round", "h")
        self.check_refused(((("h", ("on", "round")), ("k", ("back", "round", "self"))), ()), "round", "k")

    def test_ends(self):
        for rules in itertools.chain(*[itertools.combinations(WORDS, many) for many in range(1, 7)]):
            if "ends" not in rules or rules == ("ends", "on"):
                continue
            word = "round" if "round" in rules and "on" not in rules else "ends"
            self.check_refused(((("h", rules),), ()), word, "h")

    def test_hand_by_hand(self):
        self.check_refused(((("h", ("ends",)), ("k", ("round",))), ()), "ends", "h")
        self.check_refused(((("h", ("round",)), ("k", ("ends",))), ()), "round", "h")
        self.check_refused(((("h", ()), ("k", ("ends",))), (("x", "y"),)), "ends", "k")

    def test_bridges_of_hands_that_are_not_there(self):
        two = (("h", ()), ("k", ()))
        self.check_refused((two, (("x", "h"),)), "lacks", "x")
        self.check_refused((two, (("h", "x"),)), "lacks", "x")
        self.check_refused((two, (("x", "y"),)), "lacks", "x")
        self.check_refused((two, (("y", "x"),)), "lacks", "y")
        self.check_refused((two, (("x", "x"),)), "lacks", "x")

    def test_from_a_hand_to_itself(self):
        self.check_refused(((("h", ()),), (("h", "h"),)), "same", "h")
        self.check_refused(((("h", ("ends", "on")),), (("h", "h"),)), "same", "h")
        self.check_refused(((("h", ()), ("k", ())), (("h", "k"), ("k", "k"))), "same", "k")

    def test_bridges_of_ends(self):
        hands = (("h", ("ends", "on")), ("j", ("on",)), ("k", ("ends", "on")))
        self.check_refused((hands, (("h", "j"),)), "ends", "h")
        self.check_refused((hands, (("j", "h"),)), "ends", "h")
        self.check_refused((hands, (("k", "h"),)), "ends", "k")
        self.check_refused(((("h", ("ends", "on")), ("j", ("self",))), (("h", "j"),)), "ends", "h")

    def test_rules_of_the_one(self):
        hands = (("h", ("on",)), ("k", ("on", "self")))
        self.check_refused((hands, (("h", "k"),)), "rules", "h")
        self.assertIs(lets_draft((hands, (("k", "h"),))), True)
        self.assertIs(lets_draft(((("h", ()), ("k", ("step",))), (("h", "k"),))), True)
        self.assertIs(lets_draft(((("h", ()), ("k", ("step",))), (("k", "h"),))), True)
        self.check_refused(((("h", ("step",)), ("k", ("self", "step"))), (("h", "k"),)), "rules", "h")

    def test_bridge_by_bridge(self):
        hands = (("h", ()), ("j", ("on",)), ("k", ("ends", "on")))
        self.check_refused((hands, (("h", "j"), ("h", "x"))), "rules", "h")
        self.check_refused((hands, (("h", "k"), ("j", "x"))), "ends", "k")
        self.check_refused((hands, (("a", "k"), ("h", "j"))), "lacks", "a")
        self.check_refused((hands, (("j", "h"), ("j", "j"))), "same", "j")

    def test_rings(self):
        hands = (("h", ()), ("j", ()), ("k", ()))
        self.check_refused((hands, (("h", "j"), ("j", "h"))), "ring", "h")
        self.check_refused((hands, (("j", "k"), ("k", "j"))), "ring", "j")
        self.check_refused((hands, (("h", "j"), ("j", "k"), ("k", "j"))), "ring", "j")
        self.check_refused((hands, (("h", "j"), ("j", "k"), ("k", "h"))), "ring", "h")
        self.check_refused((hands, (("h", "k"), ("j", "h"), ("k", "j"))), "ring", "h")
        self.assertIs(lets_draft((hands, (("h", "j"), ("h", "k"), ("j", "k")))), True)

    def test_ring_behind_all(self):
        hands = (("h", ("on",)), ("j", ("on",)), ("k", ()))
        self.check_refused((hands, (("h", "j"), ("j", "h"), ("k", "j"))), "rules", "k")

    def test_many(self):
        words = set()
        for draft in drafts(315, 2000):
            wanted = draft_refusal(draft)
            words.add(wanted and wanted[0])
            if wanted is None:
                self.assertIs(lets_draft(draft), True)
            else:
                self.check_refused(draft, *wanted)
        self.assertEqual(words, {None, "round", "ends", "lacks", "same", "rules", "ring"})

    def test_by_name(self):
        self.assertIs(is_rules(thing=()), True)
        self.assertIs(is_draft(thing=((("h", ()),), ())), True)
        self.assertIs(is_house(thing=((("h", ()),), ())), True)
        self.assertIs(lets_draft(draft=((("h", ()),), ())), True)
