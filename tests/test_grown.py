"""[69], [70]: GROWN SAYINGS, WEBS that GROW, and where such SAYINGS COME TRUE."""

import itertools
import random
import unittest

from mustmays.answering import answered
from mustmays.errors import NoWorld
from mustmays.grown import comes_true, does_grow, grown_led, grown_web, is_grown
from mustmays.holding import holds_at
from tests.judges import ODD, bent_ones, is_plain
from tests.plainly import (
    A, B, F, T, both, either, has_rule, holds, house_of, is_web, may, must, no, parts, so, some_saying, some_webs,
    steps, told, webs_of)

GROWS = (2, (("h", ((0, 0), (0, 1), (1, 1))),), (("a", (1,)),))


def grown_sayings(seed, many, words=("a", "b"), depth=3):
    chance = random.Random(seed)
    found = []
    while len(found) < many:
        s = some_saying(chance, depth, words=words)
        if all(part[0] not in ("must", "may") for part in parts(s)):
            found.append(s)
    return found


def grows(web, hand):
    """[69], word by word."""
    letters_grow = all(
        y in places for word, places in web[2] for x, y in steps(web, hand) if x in places)
    return has_rule(web, hand, "on") and has_rule(web, hand, "self") and letters_grow


def comes(web, hand, world, s):
    goals = [y for x, y in steps(web, hand) if x == world]
    if s[0] == "letter":
        return holds(web, world, s)
    if s[0] == "and":
        return all(comes(web, hand, world, t) for t in s[1])
    if s[0] == "or":
        return any(comes(web, hand, world, t) for t in s[1])
    if s[0] == "not":
        return not any(comes(web, hand, y, s[1]) for y in goals)
    return all(not comes(web, hand, y, s[1]) or comes(web, hand, y, s[2]) for y in goals)


def led(s, hand):
    if s[0] == "letter":
        return must(hand, s)
    if s[0] in ("and", "or"):
        return (s[0], tuple(led(t, hand) for t in s[1]))
    return must(hand, (s[0],) + tuple(led(t, hand) for t in s[1:]))


class IsGrown(unittest.TestCase):
    def test_grown(self):
        for s in (A, no(A), both(A, B), T, F, either(no(A)), so(A, so(B, no(T))), no(no(no(A)))):
            self.assertIs(is_grown(s), True)

    def test_not_grown(self):
        for s in (must("h", A), may("h", A), told(A, B), no(must("h", A)), both(A, may("k", B)), so(A, must("h", B)),
                  either(told(A, A)), so(told(A, B), B), no(no(may("h", T)))):
            self.assertIs(is_grown(s), False)

    def test_no_sayings(self):
        for thing in ODD + ((), ("not",), ("not", A, A), ("and", A), ("letter", "A"), ["not", A], ("so", A), ("and", [A]),
                            no(True), 10 ** 59, "a" * 4000, [[]] * 30, ("letter", ("letter", "a")), no([A])):
            if thing != ("letter", "a") and thing != ("and", ()):
                self.assertIs(is_grown(thing), False, thing)

    def test_bent_ones(self):
        found = set()
        for thing in bent_ones(750, grown_sayings(751, 30) + [must("h", A), so(A, may("h", no(B)))], 2000):
            wanted = is_plain(thing) and all(part[0] not in ("must", "may") for part in parts(thing))
            found.add(wanted)
            self.assertIs(is_grown(thing), wanted, thing)
        self.assertEqual(found, {True, False})

    def test_by_name(self):
        self.assertIs(is_grown(thing=A), True)

    def test_deep(self):
        thing = A
        for _ in range(29):
            thing = no(thing)
        self.assertIs(is_grown(thing), True)


class DoesGrow(unittest.TestCase):
    def check(self, web, hand, wanted):
        self.assertIs(does_grow(web, hand), wanted, web)
        self.assertIs(grows(web, hand), wanted, web)

    def test_grows(self):
        self.check(GROWS, "h", True)
        self.check((1, (("h", ((0, 0),)),), ()), "h", True)
        self.check((2, (("h", ((0, 0), (1, 1))),), (("a", (0,)),)), "h", True)

    def test_not_on_or_not_self(self):
        self.check((1, (), ()), "h", False)
        self.check(GROWS, "k", False)
        self.check((2, (("h", ((0, 0), (0, 1))),), ()), "h", False)
        self.check((3, (("h", ((0, 0), (0, 1), (1, 1), (1, 2), (2, 2))),), ()), "h", False)

    def test_a_letter_that_is_true_and_not_where_a_step_leads(self):
        self.check((2, GROWS[1], (("a", (0,)),)), "h", False)
        self.check((2, GROWS[1], (("a", (0, 1)), ("b", (0,)))), "h", False)
        self.check((2, GROWS[1], (("a", (0, 1)), ("b", (1,)))), "h", True)

    def test_of_this_hand_alone(self):
        web = (2, (("h", ((0, 0), (1, 1))), ("k", ((0, 1),))), (("a", (0,)),))
        self.check(web, "h", True)
        self.check(web, "k", False)

    def test_many(self):
        found = []
        for web in itertools.chain(webs_of(house_of(()), 2, ("a", "b")), webs_of(house_of(("on", "self")), 3, ("a",))):
            found.append(does_grow(web, "h"))
            self.assertEqual(found[-1], grows(web, "h"))
        self.assertTrue(50 < sum(found) < len(found) - 50)

    def test_by_name_in_another_order(self):
        self.assertIs(does_grow(hand="h", web=GROWS), True)


class ComesTrue(unittest.TestCase):
    def check(self, web, world, s, wanted):
        self.assertIs(comes_true(web, "h", world, s), wanted)
        self.assertIs(comes(web, "h", world, s), wanted)

    def test_each_word(self):
        self.check(GROWS, 0, A, False)
        self.check(GROWS, 1, A, True)
        self.check(GROWS, 0, no(A), False)
        self.check(GROWS, 1, no(A), False)
        self.check(GROWS, 0, no(no(A)), True)
        self.check(GROWS, 0, either(A, no(A)), False)
        self.check(GROWS, 1, either(A, no(A)), True)
        self.check(GROWS, 0, so(A, A), True)
        self.check(GROWS, 0, so(no(no(A)), A), False)
        self.check(GROWS, 1, so(no(no(A)), A), True)
        self.check(GROWS, 0, both(no(B), no(no(A))), True)
        self.check(GROWS, 0, T, True)
        self.check(GROWS, 0, F, False)

    def test_not_within_so(self):
        # Where a goes on to be false it isn't let that not a leads to b.
        self.check(GROWS, 0, so(no(A), B), True)
        self.check(GROWS, 0, so(A, no(A)), False)
        self.check((2, GROWS[1], ()), 0, so(no(A), B), False)
        self.check((2, GROWS[1], (("b", (1,)),)), 0, so(no(A), B), False)
        self.check((2, GROWS[1], (("b", (0, 1)),)), 0, so(no(A), B), True)

    def test_in_webs_that_do_not_grow(self):
        self.check((1, (), ()), 0, no(T), True)
        self.check((1, (), ()), 0, so(T, F), True)
        self.check((1, (), ()), 0, A, False)
        self.check((2, (("k", ((0, 0),)),), (("a", (0,)),)), 0, no(A), True)

    def test_many(self):
        chance = random.Random(752)
        for web, s in zip(some_webs(753, 200), grown_sayings(754, 200)):
            hand = chance.choice("hk")
            for world in range(web[0]):
                self.assertIs(comes_true(web, hand, world, s), comes(web, hand, world, s))

    def test_no_world(self):
        for world in (-1, 2, 10 ** 59):
            for s in (T, A):
                with self.assertRaises(NoWorld) as caught:
                    comes_true(GROWS, "h", world, s)
                self.assertIs(caught.exception.world, world)

    def test_by_name_in_another_order(self):
        self.assertIs(comes_true(saying=A, world=1, hand="h", web=GROWS), True)


class Led(unittest.TestCase):
    def check(self, s, wanted):
        self.assertEqual(grown_led(s, "h"), wanted)
        self.assertEqual(led(s, "h"), wanted)

    def test_each_word(self):
        self.check(A, must("h", A))
        self.check(no(A), must("h", no(must("h", A))))
        self.check(so(A, B), must("h", so(must("h", A), must("h", B))))
        self.check(both(A, B), both(must("h", A), must("h", B)))
        self.check(either(A, B), either(must("h", A), must("h", B)))
        self.check(T, T)
        self.check(F, F)

    def test_within(self):
        self.check(so(no(A), either(B, T)), must("h", so(must("h", no(must("h", A))), either(must("h", B), T))))

    def test_many(self):
        for s in grown_sayings(755, 100):
            self.check(s, led(s, "h"))
        self.assertEqual(grown_led(hand="k", saying=no(A)), must("k", no(must("k", A))))

    def test_grown_web(self):
        web = (3, (("h", ((0, 0), (0, 1), (1, 1), (2, 2))),), (("a", (0, 2)), ("b", (0,)), ("c", (0, 1))))
        self.assertEqual(grown_web(web, "h"), (3, web[1], (("a", (2,)), ("c", (0, 1)))))
        # Without STEPS all must be: a letter that is true nowhere is none of it.
        self.assertEqual(grown_web((2, (), (("a", (0,)),)), "h"), (2, (), (("a", (0, 1)),)))
        self.assertEqual(grown_web((2, (), ()), "h"), (2, (), ()))
        self.assertEqual(grown_web(hand="k", web=web), (3, web[1], tuple((w, (0, 1, 2)) for w in "abc")))

    def test_grown_webs_by_the_words(self):
        for web in some_webs(756, 120):
            for hand in ("h", "k"):
                found = grown_web(web, hand)
                self.assertTrue(is_web(found))
                self.assertEqual(found[:2], web[:2])
                for word, places in web[2]:
                    wanted = tuple(w for w in range(web[0]) if holds(web, w, must(hand, ("letter", word))))
                    self.assertEqual(dict(found[2]).get(word, ()), wanted)
                self.assertLessEqual(set(dict(found[2])), set(dict(web[2])))


class Grown(unittest.TestCase):
    def test_led_it_holds_where_it_comes_true(self):
        sayings = grown_sayings(757, 40)
        for web in webs_of(house_of(("on", "self")), 3, ("a",)):
            found = grown_web(web, "h")
            self.assertIs(does_grow(found, "h"), True)
            for s in sayings[:12]:
                for world in range(3):
                    self.assertEqual(comes_true(found, "h", world, s), holds_at(web, world, grown_led(s, "h")))
        for web in webs_of(house_of(("on", "self")), 2, ("a", "b")):
            for s in sayings:
                for world in range(2):
                    self.assertEqual(
                        comes_true(grown_web(web, "h"), "h", world, s), holds_at(web, world, grown_led(s, "h")))

    def test_shown_just_where_it_comes_true_in_all(self):
        house = house_of(("on", "self"))
        webs = [web for many in (1, 2) for web in webs_of(house, many, ("a", "b")) if grows(web, "h")]
        webs += [web for web in webs_of(house, 3, ("a",)) if grows(web, "h")]
        sayings = [s for s in grown_sayings(758, 120, depth=2)]
        sayings += [so(A, A), either(A, no(A)), no(no(either(A, no(A)))), so(no(no(A)), A), so(A, no(no(A))),
                    so(no(no(no(A))), no(A)), so(so(so(A, B), A), A), so(both(A, B), A), so(both(A, no(A)), B)]
        words = []
        for s in sayings:
            found = answered(house, grown_led(s, "h"))
            words.append(found[0])
            always = all(comes_true(web, "h", world, s) for web in webs for world in range(web[0]))
            if found[0] == "shown":
                self.assertTrue(always, s)
            else:
                # What is told against it is against it LED: made to GROW the SAYING doesn't come true there.
                web = grown_web(found[1], "h")
                self.assertIs(does_grow(web, "h"), True)
                self.assertIs(comes_true(web, "h", found[2], s), False)
        self.assertGreater(words.count("shown"), 15)
        self.assertGreater(words.count("against"), 15)
