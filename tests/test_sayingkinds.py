"""[4], [10]: of any thing, whether it is a WORD, a SAYING, a PLAIN SAYING."""

import unittest

from mustmays.sayingkinds import is_plain_saying, is_saying, is_word
from tests.plainly import A, B, F, T, both, either, may, must, no, so, some_sayings, told

NO_SAYINGS = [
    None, True, False, 0, 1, -5, 10 ** 59, "", "a", "letter", (), [], ("letter",), ("and",), ("not",),
    ["letter", "a"], ("letter", "a", "b"), ("letter", ""), ("letter", "abcdefghi"), ("letter", "A"),
    ("letter", "a1"), ("letter", "a b"), ("letter", None), ("letter", 1), ("letter", ("a",)), ("letter", ["a"]),
    ("letter", A), ("Letter", "a"), ("letters", "a"), (1, "a"), (True, "a"), (None, A), ((), A), ([], A),
    (["not"], A), (("not",), A),
    ("not", "a"), ("not", A, A), ("not", ()), ("not", (A,)), ("not", [A]), ("not", ["letter", "a"]), ["not", A],
    ("and", A), ("and", []), ("and", [A]), ("and", None), ("and", "ab"), ("and", (A, "b")), ("and", (A,), (B,)),
    ("and", A, B), ("or", A), ("or", []), ("or", [A, B]), ("or", (A, [])), ("or", (A,), B), ["or", (A, B)],
    ("so", A), ("so", A, B, A), ("so", A, None), ("so", "a", B), ("so", [A, B]), ["so", A, B], ("so", (A, B)),
    ("must", A), ("must", "h"), ("must", "h", A, B), ("must", "H", A), ("must", "", A), ("must", "abcdefghi", A),
    ("must", 1, A), ("must", None, A), ("must", ["h"], A), ("must", A, "h"), ("must", "h", "a"), ["must", "h", A],
    ("may", "h"), ("may", "h", (A,)), ("may", "h", ()), ("may", A, A), ("may", "h2", A), ["may", "h", A],
    ("told", A), ("told", A, B, A), ("told", "h", A), ("told", A, None), ["told", A, B], ("shown", A, B),
    both(A, B, no(either(A, so(A, ("must", "h", ["letter", "a"]))))),
]


def nested(kind, deep):
    s = A
    for _ in range(deep):
        s = (kind, "h", s)
    return s


class Words(unittest.TestCase):
    def test_words(self):
        for thing in ("a", "z", "abcdefgh", "letter", "not", "zzzzzzzz"):
            self.assertIs(is_word(thing), True, thing)

    def test_no_words(self):
        for thing in ("", "abcdefghi", "A", "aB", "a1", "1", " ", "a ", " a", "a-b", "a_b", "`", "{", "a\n",
                      "a" * 4000, None, True, False, 0, 1, 7, (), [], ("a",), ["a"], ("letter", "a"),
                      "\u00e4", "\u00df", "\u0430"):
            self.assertIs(is_word(thing), False, thing)


class Sayings(unittest.TestCase):
    def test_sayings_without_told(self):
        for thing in (A, ("letter", "told"), no(A), T, F, both(A), either(A), both(A, A), either(A, B, T), so(A, B),
                      must("h", A), may("k", A), must("told", A), may("letter", F), must("abcdefgh", no(T)),
                      both(no(A), must("h", B), T)):
            self.assertIs(is_saying(thing), True, thing)
            self.assertIs(is_plain_saying(thing), True, thing)

    def test_told_is_a_saying_and_not_plain(self):
        for thing in (told(A, B), told(T, F), no(told(A, B)), both(A, told(A, B)), either(told(A, B), A),
                      so(A, told(A, A)), so(told(A, A), A), must("h", told(A, B)), may("h", told(A, B)),
                      told(told(A, B), A), told(A, told(A, B))):
            self.assertIs(is_saying(thing), True, thing)
            self.assertIs(is_plain_saying(thing), False, thing)

    def test_no_sayings(self):
        for thing in NO_SAYINGS:
            self.assertIs(is_saying(thing), False, thing)
            self.assertIs(is_plain_saying(thing), False, thing)

    def test_no_saying_within(self):
        for thing in NO_SAYINGS:
            for around in (no(thing), both(thing), either(A, thing), so(thing, A), so(A, thing),
                           must("h", thing), may("h", thing), told(thing, A), told(A, thing)):
                self.assertIs(is_saying(around), False, around)
                self.assertIs(is_plain_saying(around), False, around)

    def test_thirty_deep_and_beyond_what_is_handed_in(self):
        for kind in ("must", "may"):
            self.assertIs(is_saying(nested(kind, 29)), True)
            self.assertIs(is_plain_saying(nested(kind, 29)), True)
        deep = ("letter", "A")
        for _ in range(29):
            deep = no(deep)
        self.assertIs(is_saying(deep), False)
        wide = both(*[A] * 2000)
        self.assertIs(is_saying(wide), True)
        self.assertIs(is_plain_saying(either(wide, told(A, B))), False)
        self.assertIs(is_saying(both(*[A] * 2000 + [None])), False)

    def test_deep_lists(self):
        deep = []
        for _ in range(29):
            deep = [deep]
        self.assertIs(is_saying(deep), False)
        self.assertIs(is_word(deep), False)

    def test_many_sayings(self):
        for s in some_sayings(1, 200, with_told=True):
            self.assertIs(is_saying(s), True)
            self.assertIs(is_plain_saying(s), "told" not in repr(s))

    def test_by_name(self):
        self.assertIs(is_word(thing="a"), True)
        self.assertIs(is_saying(thing=told(A, B)), True)
        self.assertIs(is_plain_saying(thing=told(A, B)), False)

    def test_things_stay(self):
        thing = ["not", ["letter", "a"]]
        self.assertIs(is_saying(thing), is_saying(thing))
        self.assertIs(is_plain_saying(thing), False)
        self.assertEqual(thing, ["not", ["letter", "a"]])
