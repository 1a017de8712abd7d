"""[2]: each function called twice by places and by names in another order; what is handed in stays."""

import copy
import importlib
import inspect
import unittest

from tests.plainly import A, B, F, both, either, house_of, may, must, no, so, told
from tests.test_interface import FUNCTIONS

HOUSE = ((("h", ("on", "self")), ("k", ("on",))), (("h", "k"),))
WEB = (3, (("h", ((0, 0), (0, 1), (1, 1), (2, 2))), ("k", ((0, 1),))), (("a", (0, 2)), ("b", (1,))))
SAYING = so(must("h", A), may("k", either(A, B)))
SELF = so(must("h", A), A)
SHOWING = ((SELF, ("rule", "self", "h", A)), (must("k", SELF), ("must", 0, "k", 0)))
SORT, OTHER = (False, True, False), (True, True, False)
DEED = ("lay", "a", SHOWING)
LOG = (("book", HOUSE), DEED, ("put", "k", "self"))
LINES = ["book h:on,self;k:on/h>k", "lay a ([h]a>a) rule self h a", "put k self"]

CALLS = {
    "is_word": ("ab",), "is_saying": (told(A, B),), "is_plain_saying": (SAYING,), "parts_of_saying": (SAYING,),
    "letters_of": (SAYING,), "hands_of": (SAYING,), "depth_of": (SAYING,), "core_of": (SAYING,), "atoms_of": (SAYING,),
    "sort_tells": (SELF, (False, True)), "holds_at": (WEB, 1, SAYING), "worlds_where": (WEB, SAYING),
    "sorts_of": (SAYING,), "is_sort": (SELF, (False, True)), "part_told": (SELF, (False, True), no(A)),
    "sort_at": (WEB, SAYING, 2), "does_fit": (HOUSE, both(A, must("h", A), must("k", A)), "k", SORT, OTHER),
    "bad_sorts": (HOUSE, SAYING), "outer_atoms": ([SAYING, A],), "parting_row": ([A, SAYING], B),
    "class_rounds": (WEB,), "least_web": (WEB, {"start": 1}), "down_rounds": (HOUSE, SAYING),
    "left_web": (HOUSE, SAYING), "decided": (HOUSE, SAYING, {"most": 64}), "down_paper": (HOUSE, SELF),
    "is_web": (WEB,), "is_rules": (("on", "self"),), "is_draft": (HOUSE,), "is_house": (HOUSE,), "lets_draft": (HOUSE,),
    "rule_lack": (WEB, "k", ("back", "on")), "lets_web": (HOUSE, WEB),
    "lets_showing": (HOUSE, ((A, ("by", "one")),), {"library": (("one", A),)}), "answered": (HOUSE, SAYING),
    "lets_answered": (HOUSE, A, ("against", WEB, 1)), "made_rules": (HOUSE, "k"),
    "is_beneath": (house_of(("step",)), HOUSE), "saying_text": (SAYING,), "saying_read": ("(~a&[h]b)",),
    "cut_web": (WEB, A), "reached_web": (WEB, 1), "is_log": (LOG,), "house_word": (HOUSE,), "showing_text": (SHOWING,),
    "deed_line": (DEED,), "log_lines": (LOG,), "read_house": ("h:on/-",), "read_showing": ("T from - | T from 0",),
    "read_deed": (LINES[1],), "read_log": (LINES,), "scheme_of": (HOUSE, "h", "on", A),
    "bridge_scheme": (HOUSE, "h", "k", A), "in_few_words": (SAYING,), "letters_put": (SAYING, (("a", B), ("b", A))),
    "lets_pairs": (WEB, WEB, ((0, 0), (1, 1), (2, 2))), "lets_down": (HOUSE, SELF, (((False, True), ("self", SELF[1])),)),
    "lets_against": (HOUSE, A, (WEB, 1)), "lets_answer": (HOUSE, A, ("against", WEB, 1)),
    "showing_led": (house_of(("step",)), HOUSE, ((no(must("h", F)), ("rule", "step", "h", A)),)),
    "joined_house": (HOUSE, house_of(("back",), "a")), "house_of_hands": (HOUSE, ("k",)),
    "web_beside": (HOUSE, house_of(("back",), "a"), WEB), "web_of_hands": (WEB, ("k",)), "must_ahead": (SAYING, "k"),
    "web_behind": (WEB, "h", 0), "is_grown": (so(A, B),), "does_grow": (WEB, "h"),
    "comes_true": (WEB, "h", 0, so(A, no(B))), "grown_led": (so(A, no(B)), "h"), "grown_web": (WEB, "h"),
    "pushed_in": (no(SAYING),), "told_out": (told(A, SAYING),), "lets_parting_row": ([A], B, ((A, True), (B, False))),
    "first_against": (HOUSE, SELF[1], {"worlds": 1}), "pair_paper": (WEB, 1, WEB, 1),
    "parting_saying": (WEB, 0, WEB, 1), "parting_of": (HOUSE, ((("h", ("on",)), ("k", ("on",))), ())),
    "lets_parting": (house_of(("self",)), house_of(()), (SHOWING[:1], (1, (), ()), 0)), "self_away": (SAYING, "h"),
    "web_with_self": (WEB, "k"), "replayed": (LOG,),
}
# Of these any that fits may be told.
ANY = ("parting_row", "decided", "answered", "showing_led", "pair_paper", "parting_saying", "parting_of")


class Calls(unittest.TestCase):
    def each(self):
        for file, functions in FUNCTIONS.items():
            for name in functions:
                yield name, getattr(importlib.import_module("mustmays." + file), name)

    def by_place(self, name):
        """What is handed in by place, what by name alone."""
        things = copy.deepcopy(CALLS[name])
        if isinstance(things[-1], dict):
            return things[:-1], things[-1]
        return things, {}

    def test_each_one_is_called(self):
        self.assertEqual({name for name, function in self.each()}, set(CALLS))

    def test_twice_and_by_names_in_another_order(self):
        for name, function in self.each():
            places, named = self.by_place(name)
            first = function(*places, **named)
            by_names = list(zip(inspect.signature(function).parameters, places)) + list(named.items())
            for again in (function(*places, **named), function(**dict(reversed(by_names)))):
                self.assertIs(type(again), type(first), name)
                if name not in ANY:
                    self.assertEqual(again, first, name)

    def test_what_is_handed_in_stays(self):
        for name, function in self.each():
            places, named = self.by_place(name)
            function(*places, **named)
            self.assertEqual((places, named), self.by_place(name), name)

    def test_what_is_told_is_the_askers_own(self):
        for name, function in self.each():
            places, named = self.by_place(name)
            found = function(*places, **named)
            if isinstance(found, list):
                wanted = list(found)
                found.append("more")
                self.assertEqual(function(*places, **named), wanted)

    def test_by_name_alone(self):
        for name, function in self.each():
            places, named = self.by_place(name)
            if named:
                with self.assertRaises(TypeError):
                    function(*places, *named.values())

    def test_what_may_be_left_out(self):
        for name, function in self.each():
            for parameter in inspect.signature(function).parameters.values():
                alone = parameter.kind is inspect.Parameter.KEYWORD_ONLY
                self.assertEqual(alone, parameter.default is not inspect.Parameter.empty, name)
