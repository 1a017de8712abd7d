"""[43]: the rounds in which SORTS GO."""

import unittest

from mustmays.errors import NoHand
from mustmays.rounds import down_rounds
from tests import plainly
from tests.plainly import (
    A, B, F, LET_RULES, T, all_sorts, both, either, hands_in, house_of, houses_of_two, may, must, no, so,
    some_sayings)

NO, YES = False, True


class Rounds(unittest.TestCase):
    def test_a_first_round_in_which_none_goes(self):
        self.assertEqual(down_rounds(house_of(()), A), (((),), ((NO,), (YES,))))
        self.assertEqual(down_rounds(house_of(("step",)), T), (((),), ((),)))
        self.assertEqual(down_rounds(house_of(("ends", "on")), F), (((),), ((),)))

    def test_self(self):
        self.assertEqual(down_rounds(house_of(("self",)), so(must("h", A), A)),
                         ((((NO, YES),),), ((NO, NO), (YES, NO), (YES, YES))))

    def test_what_a_must_that_is_false_asks_for(self):
        # [h]T fails nowhere: the SORT that has it false goes in the second round.
        self.assertEqual(down_rounds(house_of(()), must("h", T)), (((), ((NO,),)), ((YES,),)))

    def test_step(self):
        # [h]F: with "step" what has it true goes.
        self.assertEqual(down_rounds(house_of(()), must("h", F)), (((),), ((NO,), (YES,))))
        self.assertEqual(down_rounds(house_of(("step",)), must("h", F)), (((), ((YES,),)), ((NO,),)))

    def test_step_of_a_hand_that_is_not_in_the_saying(self):
        # Steps of k are steps of h, and there is one: so [h]F can't be.
        house = ((("h", ()), ("k", ("step",))), (("h", "k"),))
        self.assertEqual(down_rounds(house, must("h", F)), (((), ((YES,),)), ((NO,),)))
        apart = ((("h", ()), ("k", ("step",))), ())
        self.assertEqual(down_rounds(apart, must("h", F)), (((),), ((NO,), (YES,))))

    def test_ends_with_on(self):
        # [h]F false asks for one that FITS with [h]F true; [h]F true lets all FIT that have F, so none.
        self.assertEqual(down_rounds(house_of(("ends", "on")), must("h", F)), (((),), ((NO,), (YES,))))
        # [h]([h]a>a)>[h]a goes nowhere against: each SORT that has it false goes.
        s = so(must("h", so(must("h", A), A)), must("h", A))
        rounds, left = down_rounds(house_of(("ends", "on")), s)
        atoms = plainly.atoms(s)
        self.assertTrue(all(plainly.tells(dict(zip(atoms, x)), s) for x in left))
        self.assertEqual((rounds, left), plainly.rounds(house_of(("ends", "on")), s))

    def test_later_rounds_hang_on_earlier_ones(self):
        s = must("h", must("h", must("h", T)))
        rounds, left = down_rounds(house_of(()), s)
        self.assertEqual(len(rounds), 4)
        self.assertEqual(rounds[0], ())
        self.assertEqual(left, ((YES, YES, YES),))

    def test_bridges(self):
        house = ((("h", ()), ("k", ())), (("h", "k"),))
        s = so(must("h", A), must("k", A))
        rounds, left = down_rounds(house, s)
        self.assertEqual(rounds, ((), ((NO, YES, NO), (YES, YES, NO))))
        self.assertEqual(len(left), 6)

    def check(self, house, s):
        rounds, left = down_rounds(house, s)
        self.assertEqual((rounds, left), plainly.rounds(house, s))
        for some in (rounds, left, *rounds):
            self.assertIs(type(some), tuple)
        self.assertTrue(left)
        self.assertTrue(all(rounds[1:]))
        everyone = [x for going in rounds for x in going] + list(left)
        self.assertEqual(sorted(everyone), all_sorts(s))
        self.assertTrue(all(type(truth) is bool for x in everyone for truth in x))

    def test_one_hand(self):
        for seed, rules in enumerate(LET_RULES):
            for s in some_sayings(40 + seed, 6, hands=("h",), most_atoms=3):
                self.check(house_of(rules), s)

    def test_two_hands(self):
        sayings = some_sayings(60, 500, most_atoms=3)
        sayings = [s for s in sayings if len(hands_in(s)) == 2 and len(plainly.atoms(s)) == 3]
        for k, house in enumerate(houses_of_two()):
            self.check(house, sayings[k % len(sayings)])

    def test_three_hands_with_bridges(self):
        house = ((("h", ("on",)), ("j", ("on", "step")), ("k", ())), (("h", "j"), ("j", "k")))
        for s in (so(must("h", A), must("k", A)), both(may("k", A), must("h", B)), must("j", F)):
            self.check(house, s)


class Hands(unittest.TestCase):
    def test_the_least_hand_that_is_not_there(self):
        for s, hand in ((may("k", A), "k"), (both(must("z", A), may("k", B), must("h", A)), "k"),
                        (either(must("a", no(A)), must("x", A)), "a")):
            with self.assertRaises(NoHand) as caught:
                down_rounds(house_of(()), s)
            self.assertEqual(caught.exception.hand, hand)

    def test_by_name_in_another_order(self):
        self.assertEqual(down_rounds(saying=must("h", F), house=house_of(("step",))),
                         (((), ((YES,),)), ((NO,),)))

    def test_what_is_handed_in_stays(self):
        house = ((("h", ()), ("k", ())), (("h", "k"),))
        self.assertEqual(down_rounds(house, must("h", A)), down_rounds(house, must("h", A)))
        self.assertEqual(house, ((("h", ()), ("k", ())), (("h", "k"),)))
