"""The interface: each name stands in the file under which it is listed, with the arguments listed there."""

import importlib
import inspect
import unittest

# Arguments behind a * are by name alone; those with = may be left out.
FUNCTIONS = {
    "sayingkinds": {"is_word": "thing", "is_saying": "thing", "is_plain_saying": "thing"},
    "sayingparts": {"parts_of_saying": "saying", "letters_of": "saying", "hands_of": "saying", "depth_of": "saying"},
    "atomkinds": {"core_of": "saying", "atoms_of": "saying", "sort_tells": "saying, sort"},
    "holding": {"holds_at": "web, world, saying", "worlds_where": "web, saying"},
    "sorts": {"sorts_of": "saying", "is_sort": "saying, thing", "part_told": "saying, sort, part",
              "sort_at": "web, saying, world"},
    "fitting": {"does_fit": "house, saying, hand, one, other", "bad_sorts": "house, saying"},
    "tabling": {"outer_atoms": "sayings", "parting_row": "sayings, saying"},
    "likeness": {"class_rounds": "web"},
    "leastwebs": {"least_web": "web, *, start=None"},
    "rounds": {"down_rounds": "house, saying"},
    "againstwebs": {"left_web": "house, saying"},
    "deciding": {"decided": "house, saying, *, most=400"},
    "downpapers": {"down_paper": "house, saying"},
    "webkinds": {"is_web": "thing"},
    "rulekinds": {"is_rules": "thing", "is_draft": "thing", "is_house": "thing", "lets_draft": "draft"},
    "rulelacks": {"rule_lack": "web, hand, rules"},
    "webchecker": {"lets_web": "house, thing"},
    "showjudge": {"lets_showing": "house, thing, *, library=()"},
    "answering": {"answered": "house, saying"},
    "answerjudge": {"lets_answered": "house, saying, thing"},
    "beneath": {"made_rules": "house, hand", "is_beneath": "one, other"},
    "sayingtexts": {"saying_text": "saying"},
    "sayingreadings": {"saying_read": "text"},
    "cutting": {"cut_web": "web, saying", "reached_web": "web, world"},
    "booklogs": {"is_log": "thing"},
    "booktexts": {"house_word": "house", "showing_text": "showing", "deed_line": "deed", "log_lines": "log"},
    "bookreadings": {"read_house": "text", "read_showing": "text", "read_deed": "text", "read_log": "lines"},
    "fewwords": {"in_few_words": "saying"},
    "lettersput": {"letters_put": "saying, puts"},
    "pairchecker": {"lets_pairs": "web, other, thing"},
    "downchecker": {"lets_down": "house, saying, thing", "lets_against": "house, saying, thing",
                    "lets_answer": "house, saying, thing"},
    "showingsled": {"showing_led": "one, other, showing"},
    "joininghouses": {"joined_house": "one, other", "house_of_hands": "house, hands",
                      "web_beside": "one, other, web", "web_of_hands": "web, hands"},
    "mustahead": {"must_ahead": "saying, hand", "web_behind": "web, hand, world"},
    "grown": {"is_grown": "thing", "does_grow": "web, hand", "comes_true": "web, hand, world, saying",
              "grown_led": "saying, hand", "grown_web": "web, hand"},
    "pushing": {"pushed_in": "saying"},
    "tellingout": {"told_out": "saying"},
    "tablechecker": {"lets_parting_row": "sayings, saying, thing"},
    "smallwebs": {"first_against": "house, saying, *, worlds=2"},
    "webpairs": {"pair_paper": "web, world, other, second", "parting_saying": "web, world, other, second"},
    "partinghouses": {"parting_of": "one, other", "lets_parting": "one, other, thing"},
    "selfaway": {"self_away": "saying, hand", "web_with_self": "web, hand"},
    "replaying": {"replayed": "log"},
    "ruleschemes": {"scheme_of": "house, hand, word, saying", "bridge_scheme": "house, one, other, saying"},
}
# Of each class what it is made of, and its methods; each stands in the class itself.
CLASSES = {
    "books": {"Book": {
        "__init__": "house", "lay": "name, thing", "drop": "name", "add_hand": "hand", "bare": "hand",
        "put": "hand, word",
        "take": "hand, word", "bridge": "one, other", "unbridge": "one, other", "house": "", "showing_names": "",
        "showing_kept": "name", "saying_kept": "name", "library": "", "ask": "saying",
        "whole_showing": "name, *, most=400", "log": "", "elder": "k", "undo": "", "do_all": "deeds, *, keep=False",
        "walks": "", "__len__": "", "__str__": "", "__eq__": "other", "__ne__": "other"}},
    "bookdesk": {"Desk": {"__init__": "", "say": "asking"}},
}


class Interface(unittest.TestCase):
    def test_functions_stand_in_their_files(self):
        for file, functions in FUNCTIONS.items():
            module = importlib.import_module("mustmays." + file)
            for name, arguments in functions.items():
                found = getattr(module, name)
                self.assertTrue(inspect.isfunction(found), name)
                self.assertEqual(found.__module__, "mustmays." + file)
                self.assertEqual(str(inspect.signature(found)), "(" + arguments + ")", name)

    def test_classes_and_their_methods_stand_in_their_files(self):
        for file, classes in CLASSES.items():
            module = importlib.import_module("mustmays." + file)
            for name, methods in classes.items():
                found = getattr(module, name)
                self.assertTrue(inspect.isclass(found), name)
                self.assertEqual(found.__module__, "mustmays." + file)
                self.assertEqual(found.__mro__, (found, object))
                for method, arguments in methods.items():
                    self.assertIn(method, vars(found))
                    wanted = "(self, " + arguments + ")" if arguments else "(self)"
                    self.assertEqual(str(inspect.signature(vars(found)[method])), wanted, method)
