"""[12], [14]: SAYINGS as texts."""

import unittest

from mustmays.sayingreadings import saying_read
from mustmays.sayingtexts import saying_text
from tests.plainly import A, B, C, F, T, both, either, may, must, no, so, some_sayings, told

WRITTEN = (
    (A, "a"), (("letter", "z"), "z"), (must("azz", ("letter", "zaz")), "[azz]zaz"),
    (("letter", "abcdefgh"), "abcdefgh"),
    (no(A), "~a"), (no(no(T)), "~~T"), (T, "T"), (F, "F"),
    (both(A), "(&a)"), (either(A), "(|a)"), (both(A, B), "(a&b)"), (either(A, B), "(a|b)"), (both(A, B, C), "(a&b&c)"),
    (either(A, B, C), "(a|b|c)"), (so(A, B), "(a>b)"), (must("h", A), "[h]a"), (may("h", A), "<h>a"),
    (told(A, B), "{a}b"), (must("abcdefgh", F), "[abcdefgh]F"), (both(T), "(&T)"), (either(F), "(|F)"),
    (both(no(A), must("h", B), T), "(~a&[h]b&T)"), (told(either(A, F), may("h", A)), "{(a|F)}<h>a"),
    (so(must("h", A), both(A)), "([h]a>(&a))"), (so(may("h", A), B), "(<h>a>b)"), (may("h", so(A, B)), "<h>(a>b)"),
    (told(told(A, B), told(B, A)), "{{a}b}{b}a"), (so(so(A, B), so(B, A)), "((a>b)>(b>a))"), (both(both()), "(&T)"),
    (both(both(A), either(B)), "((&a)&(|b))"), (no(must("h", no(may("k", no(A))))), "~[h]~<k>~a"),
)


def plain_text(s):
    """[12], word by word."""
    kind = s[0]
    if kind == "letter":
        return s[1]
    if kind == "not":
        return "~" + plain_text(s[1])
    if kind in ("and", "or"):
        sign = "&" if kind == "and" else "|"
        if len(s[1]) == 0:
            return "T" if kind == "and" else "F"
        if len(s[1]) == 1:
            return "(" + sign + plain_text(s[1][0]) + ")"
        return "(" + sign.join(plain_text(t) for t in s[1]) + ")"
    if kind == "so":
        return "(" + plain_text(s[1]) + ">" + plain_text(s[2]) + ")"
    if kind == "must":
        return "[" + s[1] + "]" + plain_text(s[2])
    if kind == "may":
        return "<" + s[1] + ">" + plain_text(s[2])
    return "{" + plain_text(s[1]) + "}" + plain_text(s[2])


class SayingTexts(unittest.TestCase):
    def test_each(self):
        for s, text in WRITTEN:
            self.assertEqual(saying_text(s), text)

    def test_many(self):
        for s in some_sayings(700, 600, with_told=True):
            self.assertEqual(saying_text(s), plain_text(s))
            self.assertIs(type(saying_text(s)), str)

    def test_unlike_ones_are_written_unlike(self):
        sayings = {s for s in some_sayings(701, 1500, with_told=True, hands=("h",), words=("a",))}
        self.assertEqual(len({saying_text(s) for s in sayings}), len(sayings))

    def test_what_is_written_is_read_as_the_same(self):
        for s in some_sayings(702, 300, with_told=True):
            self.assertEqual(saying_read(saying_text(s)), s)

    def test_deep_and_wide(self):
        s = A
        for _ in range(3000):
            s = no(s)
        self.assertEqual(saying_text(s), "~" * 3000 + "a")
        self.assertEqual(saying_text(both(*[A] * 1000)), "(" + "&".join("a" * 1000) + ")")

    def test_by_name(self):
        self.assertEqual(saying_text(saying=no(A)), "~a")
