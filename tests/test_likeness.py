"""[32]: ROUNDS of CLASSES."""

import unittest

from mustmays.likeness import class_rounds
from tests.plainly import classes, some_webs


def row_of(many, letters=()):
    """So many WORLDS, a STEP of h from each to the next one."""
    return (many, (("h", tuple((x, x + 1) for x in range(many - 1))),), letters)


class Rounds(unittest.TestCase):
    def test_one_world(self):
        self.assertEqual(class_rounds((1, (), ())), ((0,),))
        self.assertEqual(class_rounds((1, (("h", ((0, 0),)),), (("a", (0,)),))), ((0,),))

    def test_alike_from_the_first_round_on(self):
        self.assertEqual(class_rounds((3, (), ())), ((0, 0, 0),))
        self.assertEqual(class_rounds((3, (("h", ((0, 1), (1, 2), (2, 2))),), ())), ((0, 0, 0),))
        self.assertEqual(class_rounds((2, (("h", ((0, 1), (1, 0))),), (("a", (0, 1)),))), ((0, 0),))

    def test_letters(self):
        self.assertEqual(class_rounds((3, (), (("a", (1,)),))), ((0, 1, 0),))
        self.assertEqual(class_rounds((3, (), (("a", (0, 2)), ("b", (2,))))), ((0, 1, 2),))
        self.assertEqual(class_rounds((3, (), (("a", (0,)), ("b", (2,))))), ((0, 1, 2),))

    def test_round_by_round(self):
        self.assertEqual(class_rounds(row_of(4)), ((0, 0, 0, 0), (0, 0, 0, 1), (0, 0, 1, 2), (0, 1, 2, 3)))
        self.assertEqual(class_rounds(row_of(4, (("a", (3,)),))),
                         ((0, 0, 0, 1), (0, 0, 1, 2), (0, 1, 2, 3)))

    def test_classes_are_counted_as_their_least_worlds_rise(self):
        web = (4, (("h", ((1, 1),)),), ())
        self.assertEqual(class_rounds(web), ((0, 0, 0, 0), (0, 1, 0, 0)))
        self.assertEqual(class_rounds((3, (), (("a", (0,)),))), ((0, 1, 1),))

    def test_hands_are_told_apart(self):
        web = (3, (("h", ((0, 2),)), ("k", ((1, 2),))), ())
        self.assertEqual(class_rounds(web), ((0, 0, 0), (0, 1, 2)))

    def test_how_many_steps_does_not_count(self):
        web = (5, (("h", ((0, 2), (1, 3), (1, 4))),), ())
        self.assertEqual(class_rounds(web), ((0, 0, 0, 0, 0), (0, 0, 1, 1, 1)))

    def test_to_the_same_classes_both_ways_about(self):
        web = (4, (("h", ((0, 2), (1, 2), (1, 3))),), (("a", (3,)),))
        self.assertEqual(class_rounds(web), ((0, 0, 0, 1), (0, 1, 2, 3)))

    def test_many(self):
        for web in some_webs(30, 200):
            rounds = class_rounds(web)
            self.assertEqual(rounds, classes(web))
            self.assertIs(type(rounds), tuple)
            for classes_here in rounds:
                self.assertIs(type(classes_here), tuple)
                self.assertTrue(all(type(name) is int for name in classes_here))

    def test_by_name_and_twice(self):
        web = row_of(3)
        self.assertEqual(class_rounds(web=web), class_rounds(web))
        self.assertEqual(web, row_of(3))
