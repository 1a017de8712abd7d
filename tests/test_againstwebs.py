"""[44], [45]: the LEFT WEB."""

import unittest

from mustmays.againstwebs import left_web
from mustmays.errors import NoHand
from tests import plainly
from tests.plainly import (
    A, B, F, LET_RULES, T, both, fits, hands_in, holds, house_of, houses_of_two, is_of, is_web, may, must, no,
    so, some_sayings, tells)


def plain_left_web(house, s):
    """By [44] word by word."""
    _, left = plainly.rounds(house, s)
    atoms = plainly.atoms(s)
    steps = []
    for hand, rules in house[0]:
        pairs = []
        for i, x in enumerate(left):
            for j, y in enumerate(left):
                more = any(m[:2] == ("must", hand) and not x[k] and y[k] for k, m in enumerate(atoms))
                if fits(house, s, hand, x, y) and (more or "ends" not in rules):
                    pairs.append((i, j))
        if pairs:
            steps.append((hand, tuple(pairs)))
    letters = []
    for k, m in enumerate(atoms):
        places = tuple(i for i, x in enumerate(left) if x[k])
        if m[0] == "letter" and places:
            letters.append((m[1], places))
    return (len(left), tuple(steps), tuple(letters))


class LeftWebs(unittest.TestCase):
    def test_without_atoms(self):
        self.assertEqual(left_web(house_of(()), T), (1, (("h", ((0, 0),)),), ()))
        self.assertEqual(left_web(house_of(("step",)), F), (1, (("h", ((0, 0),)),), ()))
        self.assertEqual(left_web(house_of(("ends", "on")), T), (1, (), ()))

    def test_letters(self):
        self.assertEqual(left_web(house_of(("ends", "on")), both(A, B)), (4, (), (("a", (2, 3)), ("b", (1, 3)))))

    def test_letters_that_are_nowhere_true_go_out(self):
        # By "self" and [h]F none is LEFT with [h]F true.
        self.assertEqual(left_web(house_of(("self",)), must("h", F)), (1, (("h", ((0, 0),)),), ()))

    def test_must(self):
        # LEFT are, of a and [h]a, all four; what has [h]a true leads to those with a true.
        self.assertEqual(left_web(house_of(()), must("h", A)), (
            4, (("h", ((0, 0), (0, 1), (0, 2), (0, 3), (1, 2), (1, 3), (2, 0), (2, 1), (2, 2), (2, 3),
                       (3, 2), (3, 3))),), (("a", (2, 3)),)))

    def test_ends_lead_where_some_must_is_newly_true(self):
        self.assertEqual(left_web(house_of(("ends", "on")), must("h", F)), (2, (("h", ((0, 1),)),), ()))

    def test_hands_that_are_not_in_the_saying(self):
        house = ((("h", ()), ("k", ())), ())
        web = left_web(house, A)
        everywhere = ((0, 0), (0, 1), (1, 0), (1, 1))
        self.assertEqual(web, (2, (("h", everywhere), ("k", everywhere)), (("a", (1,)),)))

    def check(self, house, s):
        web = left_web(house, s)
        self.assertEqual(web, plain_left_web(house, s))
        self.assertTrue(is_web(web))
        self.assertTrue(is_of(house, web), (house, s))
        _, left = plainly.rounds(house, s)
        atoms = plainly.atoms(s)
        for world, x in enumerate(left):
            self.assertEqual(tuple(holds(web, world, m) for m in atoms), x)
            self.assertEqual(holds(web, world, s), tells(dict(zip(atoms, x)), plainly.core(s)))

    def test_one_hand(self):
        for seed, rules in enumerate(LET_RULES):
            for s in some_sayings(70 + seed, 6, hands=("h",), most_atoms=3):
                self.check(house_of(rules), s)

    def test_two_hands(self):
        sayings = some_sayings(90, 500, most_atoms=3)
        sayings = [s for s in sayings if len(hands_in(s)) == 2 and len(plainly.atoms(s)) == 3]
        for k, house in enumerate(houses_of_two()):
            self.check(house, sayings[k % len(sayings)])

    def test_three_hands_with_bridges(self):
        house = ((("h", ("back", "on", "self")), ("j", ("on", "step")), ("k", ())), (("h", "j"), ("j", "k")))
        for s in (so(must("h", A), must("k", A)), must("j", may("k", A)), must("j", F)):
            self.check(house, s)


class Hands(unittest.TestCase):
    def test_the_least_hand_that_is_not_there(self):
        with self.assertRaises(NoHand) as caught:
            left_web(house_of(()), both(must("z", A), may("k", no(B)), must("h", A)))
        self.assertEqual(caught.exception.hand, "k")

    def test_by_name_in_another_order(self):
        self.assertEqual(left_web(saying=T, house=house_of(())), (1, (("h", ((0, 0),)),), ()))

    def test_what_is_handed_in_stays(self):
        house = ((("h", ("on",)), ("k", ())), (("h", "k"),))
        self.assertEqual(left_web(house, must("h", A)), left_web(house, must("h", A)))
        self.assertEqual(house, ((("h", ("on",)), ("k", ())), (("h", "k"),)))
