"""[8]: the two bases and the ten refusals."""

import unittest

from mustmays import errors
from mustmays.bounds import LET_WORDS, MOST
from mustmays.errors import LackError, MustError

MUST_ERRORS = {
    "NoPaper": ("word", "at"), "NoRules": ("word", "hand"), "NoMore": ("many",),
    "NoShowing": ("row", "word"), "NoText": ("line", "word"), "NoRow": ("row",),
}
LACK_ERRORS = {"NoWorld": ("world",), "NoHand": ("hand",), "NoName": ("name",), "NoStep": ("number",)}


class LooksAtNothing:
    """A field that fails as soon as it is looked at."""

    def __eq__(self, other):
        raise AssertionError("looked at")

    def __bool__(self):
        raise AssertionError("looked at")

    def __str__(self):
        raise AssertionError("looked at")

    __repr__ = __str__

    def __hash__(self):
        raise AssertionError("looked at")


class Errors(unittest.TestCase):
    def each(self):
        for base, table in ((MustError, MUST_ERRORS), (LackError, LACK_ERRORS)):
            for name, fields in table.items():
                yield getattr(errors, name), base, fields

    def test_bases(self):
        self.assertEqual(MustError.__bases__, (ValueError,))
        self.assertEqual(LackError.__bases__, (LookupError,))

    def test_each_is_straight_under_its_base(self):
        found = list(self.each())
        self.assertEqual(len(found), 10)
        for refusal, base, _ in found:
            self.assertEqual(refusal.__bases__, (base,))

    def test_fields_by_place_are_the_very_things(self):
        for refusal, _, fields in self.each():
            things = [LooksAtNothing() for _ in fields]
            error = refusal(*things)
            for field, thing in zip(fields, things):
                self.assertIs(getattr(error, field), thing)

    def test_fields_by_name_in_another_order(self):
        for refusal, _, fields in self.each():
            things = {field: [field] for field in reversed(fields)}
            error = refusal(**things)
            for field in fields:
                self.assertIs(getattr(error, field), things[field])

    def test_just_its_fields(self):
        for refusal, _, fields in self.each():
            with self.assertRaises(TypeError):
                refusal(*range(len(fields) + 1))
            with self.assertRaises(TypeError):
                refusal(*range(len(fields) - 1))
            error = refusal(*[1] * len(fields))
            self.assertEqual(set(vars(error)), set(fields))

    def test_kept_things_are_no_copies(self):
        world = [1, 2]
        error = errors.NoWorld(world)
        world.append(3)
        self.assertEqual(error.world, [1, 2, 3])

    def test_caught_by_bases(self):
        for refusal, base, fields in self.each():
            with self.assertRaises(base):
                raise refusal(*[None] * len(fields))


class Bounds(unittest.TestCase):
    def test_let_words(self):
        self.assertEqual(LET_WORDS, ("back", "ends", "on", "round", "self", "step"))
        self.assertIs(type(LET_WORDS), tuple)

    def test_most(self):
        self.assertEqual(MOST, 400)
        self.assertIs(type(MOST), int)
