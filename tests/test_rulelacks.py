"""[6], [28]: what the STEPS of a HAND LACK of RULES."""

import itertools
import unittest

from mustmays.rulelacks import rule_lack
from tests.judges import WORDS, lack
from tests.plainly import house_of, is_of, some_webs, webs_of


def web_of(many, *pairs):
    return (many, (("h", pairs),) if pairs else (), ())


class RuleLacks(unittest.TestCase):
    def check(self, web, rules, wanted, hand="h"):
        self.assertEqual(rule_lack(web, hand, rules), wanted, (web, rules))
        self.assertEqual(lack(web, hand, rules), wanted, (web, rules))

    def test_step(self):
        self.check(web_of(1), ("step",), ("step", (0,)))
        self.check(web_of(1, (0, 0)), ("step",), None)
        self.check(web_of(3, (0, 1), (0, 2), (2, 0)), ("step",), ("step", (1,)))
        self.check(web_of(3, (0, 1), (1, 0)), ("step",), ("step", (2,)))
        self.check(web_of(3, (0, 1), (1, 0), (2, 0)), ("step",), None)

    def test_self(self):
        self.check(web_of(1), ("self",), ("self", (0,)))
        self.check(web_of(2, (0, 0), (0, 1), (1, 0)), ("self",), ("self", (1,)))
        self.check(web_of(3, (0, 0), (2, 2)), ("self",), ("self", (1,)))
        self.check(web_of(3, (0, 0), (1, 1)), ("self",), ("self", (2,)))
        self.check(web_of(2, (0, 0), (1, 1)), ("self",), None)

    def test_back(self):
        self.check(web_of(3), ("back",), None)
        self.check(web_of(3, (0, 1), (1, 0), (1, 2), (2, 2)), ("back",), ("back", (1, 2)))
        self.check(web_of(3, (1, 0), (2, 0)), ("back",), ("back", (1, 0)))
        self.check(web_of(2, (0, 1), (1, 0), (1, 1)), ("back",), None)

    def test_on(self):
        self.check(web_of(3, (0, 1), (1, 2)), ("on",), ("on", (0, 1, 2)))
        self.check(web_of(2, (0, 1), (1, 0)), ("on",), ("on", (0, 1, 0)))
        self.check(web_of(3, (0, 0), (0, 1), (1, 1), (1, 2)), ("on",), ("on", (0, 1, 2)))
        self.check(web_of(3, (0, 1), (0, 2), (1, 2)), ("on",), None)
        self.check(web_of(4, (0, 1), (0, 2), (1, 2), (1, 3), (2, 3)), ("on",), ("on", (0, 1, 3)))

    def test_round(self):
        self.check(web_of(2, (0, 1)), ("round",), ("round", (0, 1, 1)))
        self.check(web_of(3, (0, 1), (0, 2), (1, 1), (2, 2)), ("round",), ("round", (0, 1, 2)))
        self.check(web_of(2, (0, 1), (1, 1)), ("round",), None)
        self.check(web_of(2, (0, 0), (0, 1), (1, 0)), ("round",), ("round", (0, 1, 1)))

    def test_ends(self):
        self.check(web_of(3, (0, 1), (0, 2), (1, 2)), ("ends",), None)
        self.check(web_of(3, (0, 1), (1, 1)), ("ends",), ("ends", (1,)))
        self.check(web_of(2, (0, 1), (1, 0)), ("ends",), ("ends", (0,)))
        # From 0 a row leads to a ring, but none back to 0 itself.
        self.check(web_of(4, (0, 1), (1, 2), (2, 3), (3, 1)), ("ends",), ("ends", (1,)))
        self.check(web_of(4, (0, 1), (1, 2), (2, 3), (3, 0)), ("ends", "on"), ("ends", (0,)))

    def test_the_first_of_the_rules(self):
        self.check(web_of(2, (0, 1)), ("back", "round", "self", "step"), ("back", (0, 1)))
        self.check(web_of(2, (0, 1)), ("round", "self", "step"), ("round", (0, 1, 1)))
        self.check(web_of(2, (0, 1)), ("self", "step"), ("self", (0,)))
        self.check(web_of(2, (0, 1)), ("on", "step"), ("step", (1,)))
        self.check(web_of(2, (0, 1), (1, 0)), WORDS, ("ends", (0,)))

    def test_rules_that_are_not_let(self):
        self.check(web_of(2, (0, 1)), ("ends", "round"), ("round", (0, 1, 1)))
        self.check(web_of(1, (0, 0)), ("ends", "self"), ("ends", (0,)))
        self.check(web_of(1), ("ends", "self"), ("self", (0,)))

    def test_a_hand_without_steps(self):
        web = web_of(2, (0, 1), (1, 0))
        self.check(web, ("back", "ends", "on", "round"), None, hand="k")
        self.check(web, ("self",), ("self", (0,)), hand="k")
        self.check(web, WORDS, ("self", (0,)), hand="k")
        self.check(web, ("step",), ("step", (0,)), hand="x")
        self.check(web, (), None)
        self.check(web, (), None, hand="x")

    def test_all_webs_of_two_and_three_worlds(self):
        sets = [some for many in range(4) for some in itertools.combinations(WORDS, many)]
        webs = list(webs_of(house_of(()), 2, ()))
        webs += list(webs_of(house_of(()), 3, ()))[::5]
        for k, web in enumerate(webs):
            for rules in sets[k % 3::3]:
                found = rule_lack(web, "h", rules)
                self.assertEqual(found, lack(web, "h", rules), (web, rules))
                self.assertEqual(found is None, is_of(house_of(rules), (web[0], web[1], ())))

    def test_more_worlds(self):
        for k, web in enumerate(some_webs(320, 300, most=8)):
            for word in WORDS:
                self.assertEqual(rule_lack(web, "hk"[k % 2], (word,)), lack(web, "hk"[k % 2], (word,)), (web, word))

    def test_very_many_worlds(self):
        web = (10 ** 59, (("h", ((0, 1), (1, 10 ** 58))),), ())
        self.assertEqual(rule_lack(web, "h", ("step",)), ("step", (2,)))
        self.assertEqual(rule_lack(web, "h", ("self",)), ("self", (0,)))
        self.assertEqual(rule_lack(web, "h", ("on",)), ("on", (0, 1, 10 ** 58)))
        self.assertIsNone(rule_lack(web, "h", ("ends",)))

    def test_by_name_in_another_order(self):
        web = web_of(2, (0, 1))
        self.assertEqual(rule_lack(rules=("step",), hand="h", web=web), ("step", (1,)))
        self.assertIs(type(rule_lack(web, "h", ("step",))[1]), tuple)
        self.assertEqual(web, web_of(2, (0, 1)))
