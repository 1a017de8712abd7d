"""[13], [14]: texts read as SAYINGS."""

import itertools
import random
import unittest

from mustmays.errors import NoText
from mustmays.sayingkinds import is_saying
from mustmays.sayingreadings import saying_read
from mustmays.sayingtexts import saying_text
from tests.plainly import A, F, T, may, must, no, so, some_sayings, told
from tests.test_sayingtexts import WRITTEN

SIGNS = "ahTF~(&|>)[]<{}"


def written_by_length(longest):
    """All SAYINGS whose texts, with the WORDS of a and h, are so long at most: of each length the texts' dict."""
    found = [{}, {"a": ("letter", "a"), "h": ("letter", "h"), "T": T, "F": F}]
    for many in range(2, longest + 1):
        texts = {"".join(w): ("letter", "".join(w)) for w in itertools.product("ah", repeat=many)}
        if many > 8:
            texts = {}
        for text, s in found[many - 1].items():
            texts["~" + text] = no(s)
        for n in range(1, 9):
            for word in map("".join, itertools.product("ah", repeat=n)):
                for text, s in found[many - n - 2].items() if many > n + 2 else ():
                    texts["[" + word + "]" + text] = must(word, s)
                    texts["<" + word + ">" + text] = may(word, s)
        for text, s in found[many - 3].items() if many > 3 else ():
            texts["(&" + text + ")"] = ("and", (s,))
            texts["(|" + text + ")"] = ("or", (s,))
        for n in range(1, many - 2):
            for (text, s), (other, t) in itertools.product(found[n].items(), found[many - 2 - n].items()):
                texts["{" + text + "}" + other] = told(s, t)
        for parts in sums(many - 1):
            for some in itertools.product(*[found[n - 1].items() for n in parts]):
                for sign, word in (("&", "and"), ("|", "or")):
                    texts["(" + sign.join(text for text, s in some) + ")"] = (word, tuple(s for text, s in some))
                if len(some) == 2:
                    texts["(" + ">".join(text for text, s in some) + ")"] = so(some[0][1], some[1][1])
        found.append(texts)
    return found


def sums(many):
    """Two or more lengths, each with the sign behind it, that come to so many."""
    def rest(left):
        if left == 0:
            yield ()
        for n in range(2, left + 1):
            for more in rest(left - n):
                yield (n, *more)
    return [parts for parts in rest(many) if len(parts) > 1]


class SayingReadings(unittest.TestCase):
    def check_refused(self, text):
        with self.assertRaises(NoText) as caught:
            saying_read(text)
        self.assertEqual((caught.exception.line, caught.exception.word), (0, 0), text)

    def test_each(self):
        for s, text in WRITTEN:
            self.assertEqual(saying_read(text), s)

    def test_wrong_ones(self):
        for text in (
                "", " ", "a ", " a", "a b", "A", "abcdefghi", "ab1", "~", "~~", "(", ")", "()", "(a)", "((a))", "(&)",
                "(|)",
                "(&a", "&a", "a&b", "a|b", "a>b", "(a&)", "(&a&b)", "(|a|b)", "(a&b|c)", "(a|b&c)", "(a>b>c)",
                "(a>b&c)",
                "(a&b>c)", "(a>)", "(>a)", "(>a>b)", "(a&b", "a&b)", "(a&b))", "((a&b)", "[h]", "[]a", "[h", "[ha",
                "[H]a",
                "[h]]a", "[[h]]a", "[h>a", "<h]a", "<>a", "<h>", "<h", "[abcdefghi]a", "<h k>a", "{a}", "{}a", "{a",
                "{ab",
                "{a}}b", "{{a}b", "}a", "TT", "TF", "aT", "Ta", "T~", "~Ta", "(T&)", "t~", "(&T", "(a~b)", "a~", "(~)",
                "(a&&b)", "(a||b)", "(a>>b)", "(&&a)", "(&|a)", "[h]a]", "<h>a>", "(a&b)c", "a(", "[~]a", "[T]a",
                "{a]b",
                "-", "a-b", "0", "(a,b)", "a\"", "[h](a", "[h]{a}", "(&a>b)", "(|a&b)"):
            self.check_refused(text)

    def test_all_short_texts(self):
        written = {}
        for texts in written_by_length(7):
            written.update(texts)
        for s in written.values():
            self.assertTrue(is_saying(s))
        for many in range(5):
            for text in map("".join, itertools.product(SIGNS, repeat=many)):
                if text in written:
                    self.assertEqual(saying_read(text), written[text])
                else:
                    self.check_refused(text)
        for text, s in written.items():
            self.assertEqual(saying_read(text), s)
            self.assertEqual(saying_text(s), text)

    def test_bent_texts(self):
        written = {}
        for texts in written_by_length(7):
            written.update(texts)
        chance = random.Random(710)
        texts = list(written)
        refused = 0
        for _ in range(20000):
            text = chance.choice(texts)
            at = chance.randrange(len(text))
            text = text[:at] + chance.choice(("", chance.choice(SIGNS))) + text[at + chance.choice((0, 1)):]
            if len(text) > 7:
                continue
            if text in written:
                self.assertEqual(saying_read(text), written[text])
            else:
                self.check_refused(text)
                refused += 1
        self.assertGreater(refused, 1000)

    def test_many(self):
        for s in some_sayings(711, 500, with_told=True):
            self.assertEqual(saying_read(saying_text(s)), s)

    def test_three_hundred_signs(self):
        deep = saying_read("~" * 299 + "a")
        self.assertTrue(is_saying(deep))
        self.assertEqual(saying_text(deep), "~" * 299 + "a")
        for text in ("(&" * 100 + "F" + ")" * 99, "[h]" * 99 + "~a", "(" * 75 + "a>a" + ")>a" * 74 + ")",
            "{" * 100 + "a" + "}b" * 99):
            if text.startswith("{"):
                text += "}b"
            if text.startswith("(&"):
                text += ")"
            self.assertEqual(saying_text(saying_read(text)), text)
        for text in ("~" * 300, "(" * 300, "(&" * 150, "{" * 300, "[h]" * 100, "a" * 300, "(a&" * 100, ")" * 300):
            self.check_refused(text)

    def test_very_long_ones(self):
        self.assertEqual(saying_text(saying_read("~" * 3999 + "a")), "~" * 3999 + "a")
        self.check_refused("(" * 4000)
        self.check_refused("[" * 4000)

    def test_by_name(self):
        self.assertEqual(saying_read(text="~a"), no(A))
