"""The interface: each name stands in the file under which it is listed, with the arguments listed there."""

import importlib
import inspect
import unittest

# Arguments behind a * are by name alone; those with = may be left out.
FUNCTIONS = {
    "sayingkinds": {"is_word": "thing", "is_saying": "thing", "is_plain_saying": "thing"},
    "sayingparts": {"parts_of_saying": "saying", "letters_of": "saying", "hands_of": "saying", "depth_of": "saying"},
    "atomkinds": {"core_of": "saying", "atoms_of": "saying", "sort_tells": "saying, sort"},
    "holding": {"holds_at": "web, world, saying", "worlds_where": "web, saying"},
    "sorts": {"sorts_of": "saying", "is_sort": "saying, thing", "part_told": "saying, sort, part",
              "sort_at": "web, saying, world"},
    "fitting": {"does_fit": "house, saying, hand, one, other", "bad_sorts": "house, saying"},
    "tabling": {"outer_atoms": "sayings", "parting_row": "sayings, saying"},
    "likeness": {"class_rounds": "web"},
    "leastwebs": {"least_web": "web, *, start=None"},
    "rounds": {"down_rounds": "house, saying"},
    "againstwebs": {"left_web": "house, saying"},
    "deciding": {"decided": "house, saying, *, most=400"},
    "downpapers": {"down_paper": "house, saying"},
    "webkinds": {"is_web": "thing"},
    "rulekinds": {"is_rules": "thing", "is_draft": "thing", "is_house": "thing", "lets_draft": "draft"},
    "rulelacks": {"rule_lack": "web, hand, rules"},
    "webchecker": {"lets_web": "house, thing"},
    "showjudge": {"lets_showing": "house, thing, *, library=()"},
    "answering": {"answered": "house, saying"},
    "answerjudge": {"lets_answered": "house, saying, thing"},
    "beneath": {"made_rules": "house, hand", "is_beneath": "one, other"},
    "cutting": {"cut_web": "web, saying", "reached_web": "web, world"},
    "ruleschemes": {"scheme_of": "house, hand, word, saying", "bridge_scheme": "house, one, other, saying"},
}
class Interface(unittest.TestCase):
    def test_functions_stand_in_their_files(self):
        for file, functions in FUNCTIONS.items():
            module = importlib.import_module("mustmays." + file)
            for name, arguments in functions.items():
                found = getattr(module, name)
                self.assertTrue(inspect.isfunction(found), name)
                self.assertEqual(found.__module__, "mustmays." + file)
                self.assertEqual(str(inspect.signature(found)), "(" + arguments + ")", name)
