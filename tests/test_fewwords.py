"""[20], [22]: SAYINGS said IN FEW WORDS."""

import unittest

from mustmays.fewwords import in_few_words
from tests.plainly import A, B, F, T, both, either, holds, may, must, no, parts, so, some_sayings, some_webs


def few(s):
    """[20], word by word."""
    kind = s[0]
    if kind == "letter":
        return s
    if kind == "or":
        return no(both(*[no(few(t)) for t in s[1]]))
    if kind == "so":
        return no(both(few(s[1]), no(few(s[2]))))
    if kind == "may":
        return no(must(s[1], no(few(s[2]))))
    if kind == "and":
        return both(*[few(t) for t in s[1]])
    return s[:-1] + (few(s[-1]),)


class FewWords(unittest.TestCase):
    def check(self, s, wanted):
        self.assertEqual(in_few_words(s), wanted)
        self.assertEqual(few(s), wanted)

    def test_each_word(self):
        self.check(A, A)
        self.check(no(A), no(A))
        self.check(both(A, B), both(A, B))
        self.check(either(A, B), no(both(no(A), no(B))))
        self.check(so(A, B), no(both(A, no(B))))
        self.check(must("h", A), must("h", A))
        self.check(may("h", A), no(must("h", no(A))))

    def test_of_none_and_of_one(self):
        self.check(T, T)
        self.check(F, no(T))
        self.check(both(A), both(A))
        self.check(either(A), no(both(no(A))))

    def test_nothing_is_drawn_together(self):
        self.check(no(no(A)), no(no(A)))
        self.check(either(no(A)), no(both(no(no(A)))))
        self.check(may("h", no(A)), no(must("h", no(no(A)))))
        self.check(so(no(A), no(B)), no(both(no(A), no(no(B)))))

    def test_within_others(self):
        self.check(no(may("h", F)), no(no(must("h", no(no(T))))))
        self.check(so(either(A), may("k", B)), no(both(no(both(no(A))), no(no(must("k", no(B)))))))
        self.check(must("h", so(A, F)), must("h", no(both(A, no(no(T))))))
        self.check(both(either(), so(A, A), T), both(no(T), no(both(A, no(A))), T))
        self.check(either(either(A, B), T), no(both(no(no(both(no(A), no(B)))), no(T))))

    def test_many(self):
        for s, web in zip(some_sayings(700, 150, most_atoms=9), some_webs(701, 150)):
            found = in_few_words(s)
            self.assertEqual(found, few(s))
            self.assertLessEqual({part[0] for part in parts(found)}, {"letter", "not", "and", "must"})
            for world in range(web[0]):
                self.assertEqual(holds(web, world, found), holds(web, world, s))
            self.assertEqual(in_few_words(found), found)

    def test_by_name(self):
        self.assertEqual(in_few_words(saying=F), no(T))

    def test_told_may_be_handed_in_again(self):
        s = T
        for _ in range(60):
            s = may("h", either(s))
        self.assertEqual(in_few_words(in_few_words(s)), in_few_words(s))
