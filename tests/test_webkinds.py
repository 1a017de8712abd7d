"""[5], [24]: of any thing, whether it is a WEB."""

import unittest

from mustmays.webkinds import is_web
from tests.judges import any_web, bent_ones
from tests.plainly import some_webs

H = ("h", ((0, 1),))
GOOD = (
    (1, (), ()),
    (2, (H,), ()),
    (2, (("h", ((0, 0), (0, 1), (1, 0))), ("k", ((1, 1),))), (("a", (0, 1)), ("b", (1,)))),
    (1, (), (("a", (0,)),)),
    (10 ** 60 - 1, (("h", ((0, 10 ** 60 - 2),)),), (("a", (10 ** 60 - 2,)),)),
    (3, (("abcdefgh", ((2, 2),)),), (("abcdefgh", (2,)),)),
    (2, (("h", ((0, 1),)),), (("h", (1,)),)),
)
BAD = (
    None, True, 1, "", "web", (), [], (1,), (1, ()), (1, (), (), ()), [1, (), ()], ((), (), 1),
    (0, (), ()), (-1, (), ()), (True, (), ()), ("1", (), ()), (None, (), ()), ((1,), (), ()),
    (1, [], ()), (1, (), []), (1, None, ()), (1, (), None), (1, "", ()), (1, (), ""), (1, 0, ()), (1, ((),), ()),
    (2, H, ()), (2, ("h", ((0, 1),)), ()), (2, (["h", ((0, 1),)],), ()), (2, (("h", [(0, 1)]),), ()),
    (2, (("h", ([0, 1],)),), ()), (2, (("h", ()),), ()), (2, (("h", ((0,),)),), ()), (2, (("h", ((0, 1, 0),)),), ()),
    (2, (("h", (0, 1)),), ()), (2, (("h", ((0, 2),)),), ()), (2, (("h", ((2, 0),)),), ()),
    (2, (("h", ((-1, 0),)),), ()),
    (2, (("h", ((0, True),)),), ()), (2, (("h", ((False, 1),)),), ()), (2, (("h", ((0, "1"),)),), ()),
    (2, (("h", ((0, None),)),), ()), (2, (("h", ((0, 1), (0, 1))),), ()), (2, (("h", ((0, 1), (0, 0))),), ()),
    (2, (("k", ((0, 1),)), H), ()), (2, (H, H), ()), (2, (H, ("h", ((1, 1),))), ()), (2, (("H", ((0, 1),)),), ()),
    (2, (("", ((0, 1),)),), ()), (2, (("abcdefghi", ((0, 1),)),), ()), (2, ((1, ((0, 1),)),), ()),
    (2, (("h", ((0, 1),), ()),), ()), (2, (("h",),), ()),
    (2, (), (("a", ()),)), (2, (), (("a", 0),)), (2, (), (("a", [0]),)), (2, (), (("a", (2,)),)),
    (2, (), (("a", (-1,)),)),
    (2, (), (("a", (0, 0)),)), (2, (), (("a", (1, 0)),)), (2, (), (("a", (True,)),)), (2, (), (("a", (0, True)),)),
    (2, (), (("b", (0,)), ("a", (0,)))), (2, (), (("a", (0,)), ("a", (1,)))), (2, (), (("A", (0,)),)),
    (2, (), (("a", ((0,),)),)), (2, (), (("a", (None,)),)), (2, (), (["a", (0,)],)), (2, (), ("a", (0,))),
    (2, (), ((("letter", "a"), (0,)),)), (2, (("h", (0, (1, 0))),), ()), (2, (), (("a", (0, "1")),)),
)


class WebKinds(unittest.TestCase):
    def test_webs(self):
        for thing in GOOD + tuple(some_webs(300, 200)):
            self.assertIs(is_web(thing), True, thing)

    def test_others(self):
        for thing in BAD:
            self.assertIs(is_web(thing), False, thing)

    def test_bent_ones(self):
        found = [is_web(thing) for thing in bent_ones(301, GOOD[1:] + tuple(some_webs(302, 40)), 4000)]
        plain = [any_web(thing) for thing in bent_ones(301, GOOD[1:] + tuple(some_webs(302, 40)), 4000)]
        self.assertEqual(found, plain)
        self.assertTrue(100 < sum(found) < 3900, sum(found))

    def test_deep_and_wide(self):
        thing = ()
        for _ in range(29):
            thing = (thing, 0)
        self.assertIs(is_web(thing), False)
        self.assertIs(is_web((2000, (), (("a", tuple(range(2000))),))), True)
        self.assertIs(is_web((1999, (), (("a", tuple(range(2000))),))), False)

    def test_by_name(self):
        self.assertIs(is_web(thing=(1, (), ())), True)

    def test_what_is_handed_in_stays(self):
        thing = [1, [], [(0, 1)]]
        self.assertIs(is_web(thing), False)
        self.assertEqual(thing, [1, [], [(0, 1)]])
