"""[47] to [51]: any thing looked at as a DOWN PAPER, as a pair AGAINST, as either."""

import unittest

from mustmays.deciding import decided
from mustmays.downchecker import lets_against, lets_answer, lets_down
from mustmays.downpapers import down_paper
from mustmays.errors import NoHand, NoPaper
from tests import plainly
from tests.judges import bent_ones, let_houses
from tests.papers import against_refusal, down_refusal, either_refusal, first_why
from tests.plainly import (
    A, B, F, LET_RULES, T, all_sorts, both, either, holds, house_of, houses_of_two, may, must, no, so, some_sayings,
    told, webs_of)

NO, YES = False, True
M = must("h", A)
SELF = so(M, A)
# ATOMS of SELF: the letter, then the must.
BAD = ((NO, YES), ("self", M))
HOUSE = ((("h", ("self",)), ("k", ("step",))), ())


class Looks(unittest.TestCase):
    def refused(self, look, house, s, thing):
        """The word and the place by which a thing is refused, None where it is let by; and what is told."""
        try:
            return None, look(house, s, thing)
        except NoPaper as refusal:
            at = refusal.at
            self.assertIs(type(at), int)
            return (refusal.word, at), None


class Down(Looks):
    def check(self, house, s, thing, wanted):
        found, many = self.refused(lets_down, house, s, thing)
        self.assertEqual(found, wanted, (house, s, thing))
        self.assertEqual(down_refusal(house, s, thing), wanted, (house, s, thing))
        if wanted is None:
            self.assertIs(type(many), int)
            self.assertEqual(many, len(thing))

    def test_of_no_row(self):
        self.check(house_of(()), T, (), None)
        self.check(house_of(()), either(A, no(A)), (), None)
        self.check(house_of(()), F, (), ("lacks", 0))

    def test_let_by(self):
        self.check(HOUSE, SELF, (BAD,), None)
        self.check(house_of(()), must("h", T), (((NO,), ("must", must("h", T))),), None)
        self.check(HOUSE, no(must("k", F)), (((YES,), ("step", "k")),), None)

    def test_shape(self):
        for thing in (
                None, True, 1, "down", [], [BAD], (BAD, None), (list(BAD),), ([NO, YES], BAD[1]), (((NO, YES),),),
                ((BAD[0], BAD[1], 0),), (((NO, 1), BAD[1]),), (((0, YES), BAD[1]),), ((None, BAD[1]),),
                (((NO, None), BAD[1]),), (([NO, YES], BAD[1]),), ((BAD[0], list(BAD[1])),), ((BAD[0], ("self",)),),
                ((BAD[0], ("self", M, 0)),), ((BAD[0], ("self", "h")),), ((BAD[0], ("must", None)),),
                ((BAD[0], ("step", M)),), ((BAD[0], ("step", "H")),), ((BAD[0], ("step", "abcdefghi")),),
                ((BAD[0], ("round", "h")),), ((BAD[0], (True, M)),), ((BAD[0], ("self", ("must", "H", A))),),
                ((BAD[0], ("must", [M])),), ((BAD[0], None),), {}, BAD):
            self.check(HOUSE, SELF, thing, ("shape", -1))

    def test_shape_goes_ahead_of_all(self):
        self.check(HOUSE, SELF, (((NO,), BAD[1]), BAD, BAD, (BAD[0], ("step", 1))), ("shape", -1))

    def test_told_by_kind(self):
        for word in ("self", "must"):
            self.check(HOUSE, SELF, ((BAD[0], (word, told(A, B))),), ("why", 0))
            self.check(HOUSE, SELF, ((BAD[0], (word, no(told(A, B)))),), ("why", 0))

    def test_sort(self):
        for sort in ((), (NO,), (NO, YES, NO)):
            self.check(HOUSE, SELF, ((sort, BAD[1]),), ("sort", 0))
            self.check(HOUSE, SELF, (BAD, (sort, BAD[1])), ("sort", 1))
        self.check(HOUSE, T, (BAD,), ("sort", 0))

    def test_twice(self):
        self.check(HOUSE, SELF, (BAD, BAD), ("twice", 1))
        self.check(HOUSE, SELF, (BAD, (BAD[0], ("step", "x"))), ("twice", 1))
        self.check(HOUSE, SELF, (BAD, (BAD[0], ("must", A))), ("twice", 1))

    def test_why(self):
        for why in (
                ("self", A), ("must", A), ("self", must("k", A)), ("must", must("k", A)), ("must", must("h", B)),
                ("self", no(M)), ("self", may("h", A)), ("must", SELF), ("step", "h"), ("step", "x"), ("step", "a"),
                ("must", must("h", M)), ("self", T)):
            self.check(HOUSE, SELF, ((BAD[0], why),), ("why", 0))
        # The ATOM is there, but its HAND hasn't "self".
        self.check(house_of(()), SELF, (BAD,), ("why", 0))
        self.check(house_of(("step",)), SELF, (BAD,), ("why", 0))
        self.check(house_of(("self",)), SELF, ((BAD[0], ("step", "h")),), ("why", 0))

    def test_stays_by_self(self):
        self.check(HOUSE, SELF, (((NO, NO), ("self", M)),), ("stays", 0))
        self.check(HOUSE, SELF, (((YES, YES), ("self", M)),), ("stays", 0))
        self.check(HOUSE, SELF, (BAD, ((YES, NO), ("self", M))), ("stays", 1))

    def test_stays_by_must(self):
        for sort in ((NO, NO), (YES, NO), (NO, YES), (YES, YES)):
            self.check(HOUSE, SELF, ((sort, ("must", M)),), ("stays", 0))

    def test_stays_by_step(self):
        self.check(HOUSE, SELF, (BAD, ((NO, NO), ("step", "k"))), ("stays", 1))

    def test_stays_by_each_rule(self):
        # Each saying's last must is false where it goes, by the rule alone.
        for rules, s in (
                (("on",), so(M, must("h", M))),
                (("on", "round"), so(no(M), must("h", no(M)))),
                (("back",), so(no(A), must("h", no(M)))),
                (("ends", "on"), so(must("h", so(M, A)), M)),
                (("back", "on"), so(no(M), must("h", no(M))))):
            paper = down_paper(house_of(rules), s)
            self.check(house_of(rules), s, paper, None)
            first = next(k for k, (sort, why) in enumerate(paper) if why[0] == "must")
            wanted = down_refusal(house_of(()), s, paper)
            self.assertEqual(wanted[0], "stays")
            self.assertGreaterEqual(wanted[1], first)
            self.check(house_of(()), s, paper, wanted)

    def test_stays_by_a_bridge(self):
        s = so(M, must("k", A))
        hands = (("h", ()), ("k", ()))
        paper = down_paper((hands, (("h", "k"),)), s)
        self.check((hands, (("h", "k"),)), s, paper, None)
        self.check((hands, ()), s, paper, ("stays", 0))
        self.check((hands, (("k", "h"),)), s, paper, ("stays", 0))

    def test_the_order_of_rows_counts(self):
        deep = must("h", must("h", T))
        paper = down_paper(house_of(()), deep)
        self.check(house_of(()), deep, paper, None)
        # Where [h]T is true [h][h]T goes by those alone at which [h]T is false.
        self.check(house_of(()), deep, paper[::-1], ("stays", 0))
        for rules in LET_RULES:
            for s in (must("h", must("h", either(A, no(A)))), must("h", so(M, may("h", T))), so(must("h", M), must("h", T))):
                paper = down_paper(house_of(rules), s)
                if paper:
                    self.check(house_of(rules), s, paper[::-1], down_refusal(house_of(rules), s, paper[::-1]))

    def test_lacks(self):
        self.check(HOUSE, SELF, (), ("lacks", 1))
        self.check(HOUSE, both(SELF, no(must("k", F))), (), ("lacks", 1))
        s = so(both(M, must("h", B)), both(A, B))
        paper = down_paper(house_of(("self",)), s)
        for k in range(len(paper)):
            less = paper[:k] + paper[k + 1:]
            self.check(house_of(("self",)), s, less, down_refusal(house_of(("self",)), s, less))
        # The last SORT of all lacks.
        s = no(both(A, must("h", F)))
        self.check(house_of(("step",)), s, (), ("lacks", 3))

    def test_the_first_row_goes_ahead_of_the_first_word(self):
        self.check(HOUSE, SELF, (((NO, NO), ("self", M)), ((NO,), ("self", M))), ("stays", 0))
        self.check(HOUSE, SELF, (((NO, YES), ("step", "x")), ((NO,), ("self", M))), ("why", 0))

    def test_hands(self):
        for look in (lets_down, lets_against, lets_answer):
            for thing in (None, (), ((), ()), (BAD,), ("down", ()), 7):
                with self.assertRaises(NoHand) as caught:
                    look(house_of(()), both(must("z", A), may("k", no(B)), M), thing)
                self.assertEqual(caught.exception.hand, "k")

    def test_bent_ones(self):
        words = set()
        for k, house in enumerate(let_houses(761, 60)):
            hands = [hand for hand, rules in house[0]]
            sayings = some_sayings(762 + k, 4, hands=hands, most_atoms=3)
            sayings += [so(must(hands[0], A), must(hands[0], must(hands[0], A))), must(hands[-1], either(A, no(A))),
                        so(must(hands[0], A), must(hands[-1], A)), so(must(hands[0], A), A), may(hands[-1], T)]
            for s in sayings:
                paper = down_paper(house, s)
                if paper is None:
                    paper = ((tuple(NO for _ in plainly.atoms(s)), ("must", must(hands[0], A))),)
                for thing in [paper] + bent_ones(763 + k, [paper], 40):
                    wanted = down_refusal(house, s, thing)
                    words.add(wanted and wanted[0])
                    self.check(house, s, thing, wanted)
        self.assertEqual(words, {None, "shape", "sort", "twice", "why", "stays", "lacks"})

    def test_each_why_in_each_row(self):
        # Each SORT by each why, of HOUSES with and without bridges, ahead of nothing and behind what goes.
        for house in list(houses_of_two())[::17]:
            s = so(must("h", A), must("k", both(A, M)))
            paper = down_paper(house, s) or ()
            whys = [(word, m) for word in ("self", "must") for m in plainly.atoms(s)] + [("step", h) for h in "hkx"]
            for sort in all_sorts(s):
                for why in whys:
                    for ahead in ((), paper[:2], tuple(row for row in paper if row[0] != sort)):
                        if down_refusal(house, s, ahead) in (None, ("lacks", 0)) or ahead == ():
                            thing = ahead + ((sort, why),)
                            self.check(house, s, thing, down_refusal(house, s, thing))

    def test_a_row_more_leaves_it_one(self):
        more = 0
        for k, rules in enumerate(LET_RULES):
            house = house_of(rules)
            for s in some_sayings(770 + k, 40, hands=("h",), most_atoms=3):
                paper = down_paper(house, s)
                for many in range(len(paper or ())):
                    if down_refusal(house, s, paper[:many]) is None:
                        # All that stand behind a DOWN PAPER go as well, one by one.
                        for rest in range(many, len(paper) + 1):
                            more += 1
                            self.check(house, s, paper[:rest], None)
                        break
        self.assertGreater(more, 30)

    def test_by_the_last_first_why(self):
        # Another why that is right is let by, too.
        house = ((("h", ("self",)), ("k", ("self",))), ())
        s = so(both(M, must("k", A)), A)
        sort = (NO, YES, YES)
        self.assertEqual(first_why(house, s, sort, []), ("self", M))
        paper = down_paper(house, s)
        other = tuple((x, ("self", must("k", A)) if x == sort else why) for x, why in paper)
        self.assertNotEqual(other, paper)
        self.check(house, s, other, None)

    def test_what_is_let_by_holds(self):
        shown = 0
        for k, rules in enumerate(LET_RULES):
            house = house_of(rules)
            webs = [web for many in (1, 2) for web in webs_of(house, many, ("a", "b"))]
            for s in some_sayings(790 + k, 10, hands=("h",), most_atoms=3):
                paper = down_paper(house, s)
                if paper is not None:
                    shown += 1
                    self.check(house, s, paper, None)
                    self.assertTrue(all(holds(web, w, s) for web in webs for w in range(web[0])))
        self.assertGreater(shown, 25)

    def test_by_name_in_another_order(self):
        self.assertEqual(lets_down(thing=(BAD,), saying=SELF, house=HOUSE), 1)


class Against(Looks):
    WEB = (2, (("h", ((0, 0), (0, 1), (1, 1))), ("k", ((0, 1), (1, 1)))), (("a", (1,)), ("x", (0,))))

    def check(self, house, s, thing, wanted):
        found, answer = self.refused(lets_against, house, s, thing)
        self.assertEqual(found, wanted, (house, s, thing))
        self.assertEqual(against_refusal(house, s, thing), wanted, (house, s, thing))
        if wanted is None:
            self.assertIs(answer, True)

    def test_let_by(self):
        self.check(HOUSE, A, (self.WEB, 0), None)
        self.check(HOUSE, no(may("k", A)), (self.WEB, 1), None)
        # Neither its letters nor its WORLDS are asked for more.
        self.check(house_of(()), A, ((3, (), (("zz", (1, 2)),)), 2), None)

    def test_shape(self):
        for thing in (None, (), (self.WEB,), [self.WEB, 0], (self.WEB, True), (self.WEB, None), (self.WEB, 0, 0),
                      (list(self.WEB), 0), ((0, (), ()), 0), (0, self.WEB), (self.WEB, "0"), ("against", self.WEB, 0),
                      ((True, (), ()), 0), (self.WEB, (0,))):
            self.check(HOUSE, A, thing, ("shape", -1))

    def test_of(self):
        self.check(HOUSE, A, ((1, (), ()), 0), ("of", -1))
        self.check(HOUSE, A, ((1, (("h", ((0, 0),)),), ()), 5), ("of", -1))
        self.check(house_of(()), A, (self.WEB, 0), ("of", -1))
        self.check(HOUSE, T, ((1, (("x", ((0, 0),)),), ()), 0), ("of", -1))

    def test_world(self):
        for world in (2, -1, 10 ** 59, -10 ** 59):
            self.check(HOUSE, A, (self.WEB, world), ("world", -1))
            self.check(HOUSE, T, (self.WEB, world), ("world", -1))

    def test_holds(self):
        self.check(HOUSE, A, (self.WEB, 1), ("holds", -1))
        self.check(HOUSE, T, (self.WEB, 0), ("holds", -1))
        self.check(HOUSE, may("k", A), (self.WEB, 0), ("holds", -1))

    def test_very_many_worlds(self):
        web = (10 ** 59, (("h", ((0, 10 ** 58), (10 ** 58, 7))),), (("a", (7, 10 ** 58)),))
        self.assertIs(lets_against(house_of(()), A, (web, 10 ** 59 - 1)), True)
        self.assertEqual(self.refused(lets_against, house_of(()), M, (web, 0))[0], ("holds", -1))
        self.assertEqual(self.refused(lets_against, HOUSE, M, (web, 0))[0], ("of", -1))

    def test_by_name_in_another_order(self):
        self.assertIs(lets_against(thing=(self.WEB, 0), saying=A, house=HOUSE), True)


class Answer(Looks):
    def check(self, house, s, thing, wanted):
        found, answer = self.refused(lets_answer, house, s, thing)
        self.assertEqual(found, wanted, (house, s, thing))
        self.assertEqual(either_refusal(house, s, thing), wanted, (house, s, thing))
        if wanted is None:
            self.assertEqual(answer, thing[0])
            self.assertIs(type(answer), str)

    def test_let_by(self):
        self.check(HOUSE, SELF, ("down", (BAD,)), None)
        self.check(HOUSE, A, ("against", Against.WEB, 0), None)

    def test_neither(self):
        for thing in (
                None, (), "down", "against", ("down",), ("against",), ("down", (BAD,), 0), ("against", Against.WEB),
                ("against", Against.WEB, 0, 0), ["down", (BAD,)], ["against", Against.WEB, 0], ("shown", (BAD,)),
                ("Down", (BAD,)), (("down",), (BAD,)), (True, (BAD,)), ("against", (Against.WEB, 0)),
                ("down", Against.WEB, 0), (BAD,), ("against", ())):
            self.check(HOUSE, SELF, thing, ("shape", -1))

    def test_as_those_refuse(self):
        for thing, wanted in (
                (("down", None), ("shape", -1)), (("down", (((NO,), BAD[1]),)), ("sort", 0)),
                (("down", (BAD, BAD)), ("twice", 1)), (("down", ((BAD[0], ("step", "h")),)), ("why", 0)),
                (("down", (((NO, NO), BAD[1]),)), ("stays", 0)), (("down", ()), ("lacks", 1)),
                (("against", None, 0), ("shape", -1)), (("against", Against.WEB, True), ("shape", -1)),
                (("against", (1, (), ()), 0), ("of", -1)), (("against", Against.WEB, 2), ("world", -1)),
                (("against", Against.WEB, 1), ("holds", -1))):
            self.check(HOUSE, SELF, thing, wanted)

    def test_what_is_decided_is_let_by(self):
        words = []
        for k, house in enumerate(let_houses(810, 120)):
            hands = [hand for hand, rules in house[0]]
            for s in some_sayings(811 + k, 3, hands=hands) + [so(must(hands[0], A), must(hands[0], must(hands[0], A)))]:
                found = decided(house, s)
                words.append(found[0])
                self.assertEqual(lets_answer(house, s, found), found[0])
        self.assertGreater(words.count("down"), 40)
        self.assertGreater(words.count("against"), 40)

    def test_just_one_of_both(self):
        # Whoever wrote them: of bent papers none of the other kind is let by.
        words = []
        for k, house in enumerate(let_houses(820, 40)):
            hands = [hand for hand, rules in house[0]]
            for s in some_sayings(821 + k, 3, hands=hands, most_atoms=3) + [so(must(hands[0], A), A)]:
                found = decided(house, s)
                other = ("down", tuple((x, ("must", m)) for x in all_sorts(s) for m in plainly.atoms(s)[-1:]))
                for thing in bent_ones(822 + k, [found, other], 40) + [found]:
                    wanted = either_refusal(house, s, thing)
                    self.check(house, s, thing, wanted)
                    if wanted is None:
                        words.append(thing[0])
                        self.assertEqual(thing[0], found[0])
        self.assertEqual(set(words), {"down", "against"})

    def test_by_name_in_another_order(self):
        self.assertEqual(lets_answer(thing=("down", (BAD,)), saying=SELF, house=HOUSE), "down")

    def test_what_is_handed_in_stays(self):
        thing = ["down", [list(BAD)]]
        for _ in range(2):
            with self.assertRaises(NoPaper):
                lets_answer(HOUSE, SELF, thing)
        self.assertEqual(thing, ["down", [list(BAD)]])
