"""What is promised over several parts of the program, by the numbers of the document's points."""

import itertools
import random
import unittest

from mustmays.againstwebs import left_web
from mustmays.answering import answered
from mustmays.answerjudge import lets_answered
from mustmays.atomkinds import atoms_of, core_of, sort_tells
from mustmays.beneath import is_beneath, made_rules
from mustmays.bookdesk import Desk
from mustmays.bookreadings import read_deed, read_house, read_log, read_showing
from mustmays.books import Book
from mustmays.booktexts import deed_line, house_word, log_lines, showing_text
from mustmays.cutting import cut_web, reached_web
from mustmays.deciding import decided
from mustmays.downchecker import lets_against, lets_answer, lets_down
from mustmays.downpapers import down_paper
from mustmays.errors import LackError, MustError, NoPaper
from mustmays.fewwords import in_few_words
from mustmays.fitting import bad_sorts, does_fit
from mustmays.grown import comes_true, does_grow, grown_led, grown_web
from mustmays.holding import holds_at, worlds_where
from mustmays.joininghouses import house_of_hands, joined_house, web_beside, web_of_hands
from mustmays.leastwebs import least_web
from mustmays.lettersput import letters_put
from mustmays.mustahead import must_ahead, web_behind
from mustmays.pairchecker import lets_pairs
from mustmays.partinghouses import lets_parting, parting_of
from mustmays.pushing import pushed_in
from mustmays.replaying import replayed
from mustmays.rounds import down_rounds
from mustmays.rulelacks import rule_lack
from mustmays.sayingparts import depth_of, hands_of, letters_of, parts_of_saying
from mustmays.sayingreadings import saying_read
from mustmays.sayingtexts import saying_text
from mustmays.selfaway import self_away, web_with_self
from mustmays.showingsled import showing_led
from mustmays.showjudge import lets_showing
from mustmays.smallwebs import first_against
from mustmays.sorts import part_told, sort_at, sorts_of
from mustmays.tablechecker import lets_parting_row
from mustmays.tabling import outer_atoms, parting_row
from mustmays.tellingout import told_out
from mustmays.webchecker import lets_web
from mustmays.webpairs import pair_paper, parting_saying
from tests.bookwords import some_deed, some_showing
from tests.judges import bent_ones, draft_refusal, let_houses
from tests.plainbook import PlainBook
from tests.plainly import (
    A, B, C, F, LET_RULES, T, both, either, house_of, houses_of_two, may, must, no, so, some_saying, some_sayings,
    some_webs, told, webs_of)
from tests.test_books_plainly import next_row, told_or_refused
from tests.test_grown import grown_sayings

SWAPPED = (("a", B), ("b", A))
MOVED = (("a", ("letter", "y")), ("b", ("letter", "x")))


def renamed(house, names):
    hands = tuple(sorted((names[hand], rules) for hand, rules in house[0]))
    return (hands, tuple(sorted((names[one], names[other]) for one, other in house[1])))


def hands_there(house):
    return [hand for hand, rules in house[0]]


class JustOneOfBoth(unittest.TestCase):
    """[3], [51], [52], [58], [60]: a SHOWING or a WEB, a DOWN PAPER or a WEB; all small WEBS."""

    def cases(self):
        for k, rules in enumerate(LET_RULES):
            for s in some_sayings(1100 + k, 12, hands=("h",)) + [
                    so(must("h", A), A), so(must("h", A), must("h", must("h", A))), may("h", T),
                    so(may("h", must("h", A)), A), so(must("h", so(must("h", A), A)), must("h", A)),
                    so(must("h", both(A, B)), must("h", B)), so(may("h", A), must("h", may("h", A)))]:
                yield house_of(rules), s
        for k, house in enumerate(list(houses_of_two())[::43]):
            yield house, some_sayings(1130 + k, 1, most_atoms=3)[0]
            yield house, so(must("h", A), must("k", A))

    def test_all_ways_agree(self):
        counts = {True: 0, False: 0}
        for house, s in self.cases():
            found, answer = decided(house, s), answered(house, s)
            shown = found[0] == "down"
            counts[shown] += 1
            self.assertEqual(answer[0], "shown" if shown else "against")
            self.assertEqual(lets_answer(house, s, found), found[0])
            self.assertIs(lets_answered(house, s, answer), shown)
            self.assertEqual(down_paper(house, s), found[1] if shown else None)
            small = first_against(house, s)
            if shown:
                self.assertEqual(lets_down(house, s, found[1]), len(found[1]))
                self.assertEqual(lets_showing(house, answer[1]), s)
                self.assertIsNone(small)
            else:
                self.assertIs(lets_against(house, s, found[1:]), True)
                self.assertIs(lets_against(house, s, answer[1:]), True)
            if small is not None:
                self.assertIs(lets_answered(house, s, ("against", *small)), False)
                self.assertEqual(lets_answer(house, s, ("against", *small)), "against")
        self.assertGreater(min(counts.values()), 60)

    def test_small_webs_that_decided_tells_are_found(self):
        # A WEB of one letter, of at most as many WORLDS as are gone through: one is told then, of no more.
        seen = 0
        for k, rules in enumerate(LET_RULES):
            house = house_of(rules)
            for s in some_sayings(1160 + k, 10, hands=("h",), words=("a",)):
                found = decided(house, s)
                if found[0] == "against" and found[1][0] <= 3:
                    seen += 1
                    small = first_against(house, s, worlds=3)
                    self.assertLessEqual(small[0][0], found[1][0])
                elif found[0] == "down":
                    self.assertIsNone(first_against(house, s, worlds=3))
        self.assertGreater(seen, 60)

    def test_of_both_kinds_just_one_is_let_by_whoever_wrote_it(self):
        for k, house in enumerate(let_houses(1190, 25)):
            for s in some_sayings(1191 + k, 2, hands=hands_there(house), most_atoms=3):
                shown = decided(house, s)[0] == "down"
                things = [answered(house, s), decided(house, s), decided(house, no(s)), answered(house, no(s))]
                for thing in things + bent_ones(1192 + k, things, 60):
                    try:
                        self.assertIs(lets_answered(house, s, thing), shown)
                    except NoPaper:
                        pass
                    try:
                        self.assertEqual(lets_answer(house, s, thing), "down" if shown else "against")
                    except NoPaper:
                        pass

    def test_a_row_more_leaves_a_down_paper_one(self):
        # [51]: the SORTS that GO besides, in the order in which they do.
        for rules in LET_RULES:
            for s in (must("h", either(A, no(A))), so(must("h", A), either(A, no(A))), must("h", must("h", T)),
                      so(must("h", so(A, B)), so(must("h", A), must("h", B)))):
                paper = down_paper(house_of(rules), s)
                if paper is None:
                    continue
                let = []
                for many in range(len(paper) + 1):
                    try:
                        lets_down(house_of(rules), s, paper[:many])
                        let.append(many)
                    except NoPaper as refusal:
                        self.assertEqual(refusal.word, "lacks")
                        self.assertEqual(let, [])
                self.assertEqual(let, list(range(let[0], len(paper) + 1)))

    def test_what_is_shown_holds(self):
        # [57]: in each WEB OF the HOUSE in which the LIBRARY's SAYINGS hold.
        house = house_of(("back",))
        library = (("one", so(A, B)),)
        rows = ((so(A, B), ("by", "one")), (must("h", so(A, B)), ("must", 0, "h", 0)),
                (so(must("h", A), must("h", B)), ("must", 0, "h", 1)), (so(no(B), must("h", no(must("h", B)))),
                                                                        ("rule", "back", "h", B)),
                (so(both(must("h", A), no(B)), both(must("h", B), must("h", no(must("h", B))))), ("from", (2, 3))))
        self.assertEqual(lets_showing(house, rows, library=library), rows[-1][0])
        for web in webs_of(house, 2, ("a", "b")):
            if len(worlds_where(web, so(A, B))) == 2:
                for s, why in rows:
                    self.assertEqual(worlds_where(web, s), (0, 1))
        for more in (house_of(("back", "on")), ((("h", ("back",)), ("k", ("on",))), ())):
            self.assertEqual(lets_showing(more, rows, library=library + (("two", F),)), rows[-1][0])


class Sorts(unittest.TestCase):
    """[42], [45]: SORTS of WORLDS, SORTS that are LEFT."""

    def test_sorts_of_worlds(self):
        for k, rules in enumerate(LET_RULES):
            house = house_of(rules)
            webs = list(webs_of(house, 2, ("a",)))
            for s in some_sayings(1200 + k, 4, hands=("h",), words=("a",)):
                gone, left = down_rounds(house, s)
                bad = bad_sorts(house, s)
                self.assertEqual(bad, gone[0])
                for web in webs[::3]:
                    here = [sort_at(web, s, world) for world in range(2)]
                    for world, sort in enumerate(here):
                        self.assertIn(sort, left)
                        self.assertEqual(sort_tells(s, sort), holds_at(web, world, s))
                    for x, y in dict(web[1]).get("h", ()):
                        self.assertIs(does_fit(house, s, "h", here[x], here[y]), True)

    def test_the_left_web(self):
        for k, house in enumerate(let_houses(1230, 40)):
            for s in some_sayings(1231 + k, 3, hands=hands_there(house), most_atoms=4):
                gone, left = down_rounds(house, s)
                web = left_web(house, s)
                self.assertIs(lets_web(house, web), True)
                self.assertEqual(sorted([x for going in gone for x in going] + list(left)), list(sorts_of(s)))
                for world, sort in enumerate(left):
                    self.assertEqual(sort_at(web, s, world), sort)
                    for part in parts_of_saying(core_of(s)):
                        self.assertEqual(holds_at(web, world, part), part_told(s, sort, part))
                always = all(sort_tells(s, sort) for sort in left)
                self.assertEqual(always, len(worlds_where(web, s)) == web[0])
                self.assertEqual(always, decided(house, s)[0] == "down")


class SaidOtherwise(unittest.TestCase):
    """[14], [18], [22]: texts, what FOLLOWS, what SAYINGS become."""

    def test_texts(self):
        found = {}
        for s in some_sayings(1240, 300, with_told=True):
            text = saying_text(s)
            if len(text) <= 300:
                self.assertEqual(saying_read(text), s)
            self.assertEqual(found.setdefault(text, s), s)
            for other in (told_out(s), self_away(s, "h"), letters_put(s, SWAPPED)):
                self.assertEqual(saying_read(saying_text(other)), other)

    def test_what_they_become_holds_where_they_did(self):
        for s, web in zip(some_sayings(1241, 120, most_atoms=6), some_webs(1242, 120)):
            for other in (pushed_in(s), in_few_words(s), pushed_in(in_few_words(s)), in_few_words(pushed_in(s))):
                self.assertEqual(worlds_where(web, other), worlds_where(web, s))
        for s, web in zip(some_sayings(1243, 120, with_told=True), some_webs(1244, 120)):
            plain = told_out(s)
            for other in (plain, pushed_in(plain), in_few_words(plain)):
                self.assertEqual(worlds_where(web, other), worlds_where(web, s))

    def test_what_they_become_is_decided_the_same(self):
        for k, house in enumerate(let_houses(1245, 40)):
            for s in some_sayings(1246 + k, 2, hands=hands_there(house), most_atoms=3):
                word = decided(house, s)[0]
                for other in (pushed_in(s), in_few_words(s)):
                    if len(atoms_of(other)) <= 6:
                        self.assertEqual(decided(house, other)[0], word, (house, s))

    def test_letters_put_one_to_one(self):
        for puts in (SWAPPED, MOVED):
            def put(s):
                return letters_put(s, puts)

            def put_all(sayings):
                return tuple(sorted(put(s) for s in sayings))
            names = {word: s[1] for word, s in puts}
            for s in some_sayings(1247, 80, with_told=True):
                self.assertEqual(parts_of_saying(put(s)), put_all(parts_of_saying(s)))
                self.assertEqual(letters_of(put(s)), tuple(sorted(names[word] for word in letters_of(s))))
                self.assertEqual((hands_of(put(s)), depth_of(put(s))), (hands_of(s), depth_of(s)))
                self.assertEqual(told_out(put(s)), put(told_out(s)))
            sayings = some_sayings(1248, 80)
            for s, other in zip(sayings, sayings[1:]):
                self.assertEqual(core_of(put(s)), put(core_of(s)))
                self.assertEqual(atoms_of(put(s)), put_all(atoms_of(s)))
                self.assertEqual(outer_atoms([put(s), put(other)]), put_all(outer_atoms([s, other])))
                self.assertEqual(pushed_in(put(s)), put(pushed_in(s)))
                self.assertEqual(in_few_words(put(s)), put(in_few_words(s)))
                row = parting_row([s], other)
                self.assertEqual(parting_row([put(s)], put(other)) is None, row is None)
                if row is not None:
                    turned = tuple(sorted((put(atom), truth) for atom, truth in row))
                    self.assertIs(lets_parting_row([put(s)], put(other), turned), True)
                for sort in sorts_of(s):
                    truths = dict(zip(map(put, atoms_of(s)), sort))
                    turned = tuple(truths[atom] for atom in atoms_of(put(s)))
                    self.assertEqual(sort_tells(put(s), turned), sort_tells(s, sort))

    def test_what_follows_follows_with_sayings_put(self):
        chance = random.Random(1249)
        seen = 0
        for some in itertools.combinations(some_sayings(1250, 24, most_atoms=3), 2):
            for s in (either(*some), so(some[0], some[1]), some[0], both(*some)):
                if parting_row(some, s) is None:
                    seen += 1
                    puts = (("a", some_saying(chance, 2)), ("b", some_saying(chance, 1)))
                    turned = [letters_put(one, puts) for one in (*some, s)]
                    if len(outer_atoms(turned)) <= 10:
                        self.assertIsNone(parting_row(turned[:2], turned[2]))
        self.assertGreater(seen, 500)

    def test_what_follows_holds(self):
        # [18]: at each WORLD of each WEB at which they all do.
        webs = some_webs(1251, 30, most=4)
        for some in itertools.combinations(some_sayings(1252, 20, most_atoms=3), 2):
            for s in (either(*some), both(*some), some_sayings(1253, 1)[0]):
                row = parting_row(some, s)
                if row is None:
                    for web in webs:
                        where = set(worlds_where(web, some[0])) & set(worlds_where(web, some[1]))
                        self.assertLessEqual(where, set(worlds_where(web, s)))
                else:
                    self.assertIs(lets_parting_row(some, s, row), True)
        # The other way about it needn't be.
        self.assertIsNotNone(parting_row((), must("h", T)))
        self.assertIsNone(first_against(house_of(()), must("h", T)))

    def test_the_cut(self):
        for web, s, t in zip(some_webs(1254, 80), some_sayings(1255, 80), some_sayings(1256, 80, with_told=True)):
            part = cut_web(web, s)
            where = worlds_where(web, s)
            if part is None:
                self.assertEqual(worlds_where(web, told(s, t)), tuple(range(web[0])))
            else:
                inside = [where[world] for world in worlds_where(part, t)]
                self.assertEqual(worlds_where(web, both(s, told(s, t))), tuple(inside))


class Webs(unittest.TestCase):
    """[31], [34], [37]: WEBS gone through, made least, paired and parted."""

    def test_made_least_nothing_turns(self):
        sayings = some_sayings(1260, 40, with_told=True)
        for web in some_webs(1261, 60):
            small, calls = least_web(web)
            for s in sayings[:20]:
                for world in range(web[0]):
                    self.assertEqual(holds_at(web, world, s), holds_at(small, calls[world], s))
            for hand in ("h", "k"):
                for word in ("back", "on", "round", "self", "step"):
                    if rule_lack(web, hand, (word,)) is None:
                        self.assertIsNone(rule_lack(small, hand, (word,)), (web, hand, word))
            self.assertEqual(least_web(small), (small, tuple(range(small[0]))))
            self.assertEqual(lets_pairs(web, small, tuple(enumerate(calls))), web[0])

    def test_rules_and_bridges_stay(self):
        for house in let_houses(1262, 40):
            for s in some_sayings(1263, 2, hands=hands_there(house)):
                web = left_web(house, s)
                for start in (None, 0, web[0] - 1):
                    self.assertIs(lets_web(house, least_web(web, start=start)[0]), True)

    def test_in_one_class_just_where_none_parts_them(self):
        for web in some_webs(1264, 80, most=4):
            calls = least_web(web)[1]
            for x, y in itertools.product(range(web[0]), repeat=2):
                s = parting_saying(web, x, web, y)
                self.assertEqual(s is None, calls[x] == calls[y])
                self.assertEqual(pair_paper(web, x, web, y) is None, s is not None)

    def test_what_is_reached_says_the_same(self):
        for web, s in zip(some_webs(1265, 80), some_sayings(1266, 80)):
            for world in range(web[0]):
                part, call = reached_web(web, world)
                self.assertEqual(holds_at(part, call, s), holds_at(web, world, s))
                self.assertIn((world, call), pair_paper(web, world, part, call))

    def test_all_small_webs_whatever_letters(self):
        for k, rules in enumerate(LET_RULES[::2]):
            house = house_of(rules)
            for s in some_sayings(1267 + k, 6, hands=("h",), words=("a",), with_told=True):
                for worlds in (1, 2):
                    found = first_against(house, s, worlds=worlds)
                    webs = [web for many in range(1, worlds + 1) for web in webs_of(house, many, ("a", "z"))]
                    against = any(len(worlds_where(web, s)) < web[0] for web in webs)
                    self.assertEqual(found is not None, against)
                    if found is not None:
                        self.assertIs(lets_web(house, found[0]), True)
                        self.assertIs(holds_at(*found, s), False)


class Houses(unittest.TestCase):
    """[3], [62], [63], [66]: HOUSES compared, joined."""

    def test_led_or_parted(self):
        kinds = []
        for one, other in itertools.product(let_houses(1280, 40), repeat=2):
            if not set(hands_there(one)) <= set(hands_there(other)):
                continue
            paper = parting_of(one, other)
            kinds.append(paper is None)
            self.assertEqual(is_beneath(one, other), paper is None)
            if paper is not None:
                s = lets_parting(one, other, paper)
                self.assertEqual((answered(one, s)[0], answered(other, s)[0]), ("shown", "against"))
                self.assertIs(lets_against(other, s, paper[1:]), True)
                continue
            for s in some_sayings(1281 + len(kinds), 2, hands=hands_there(one), most_atoms=3) + [
                    so(must(hand, A), A) for hand in hands_there(one)]:
                found = answered(one, s)
                if found[0] == "shown":
                    led = showing_led(one, other, found[1])
                    self.assertEqual(lets_showing(other, led), s)
                    self.assertEqual(answered(other, s)[0], "shown")
        self.assertTrue(50 < kinds.count(True) < len(kinds) - 50)

    def test_made_rules_make_no_house_stronger(self):
        for house in let_houses(1290, 120):
            more = (tuple((hand, made_rules(house, hand)) for hand in hands_there(house)), house[1])
            self.assertIs(is_beneath(more, house), True)
            self.assertIs(is_beneath(house, more), True)
            if draft_refusal(more) is None:
                self.assertIsNone(parting_of(more, house))

    def test_joined(self):
        for k, (one, other) in enumerate(zip(let_houses(1291, 40), let_houses(1292, 40))):
            other = renamed(other, {"h": "a", "j": "i", "k": "z"})
            joined = joined_house(one, other)
            hands = hands_there(one)
            self.assertEqual(house_of_hands(joined, tuple(hands)), one)
            self.assertIs(is_beneath(one, joined), True)
            for s in some_sayings(1293 + k, 3, hands=hands, most_atoms=3) + [so(must(hands[0], A), A)]:
                found = answered(one, s)
                self.assertEqual(answered(joined, s)[0], found[0])
                if found[0] == "shown":
                    self.assertEqual(lets_showing(joined, found[1]), s)
                    self.assertEqual(lets_showing(joined, showing_led(one, joined, found[1])), s)
                else:
                    web = web_beside(one, other, found[1])
                    self.assertIs(lets_answered(joined, s, ("against", web, found[2])), False)
                    there = answered(joined, s)
                    self.assertIs(lets_against(one, s, (web_of_hands(there[1], tuple(hands)), there[2])), True)


class LedIntoOthers(unittest.TestCase):
    """[67], [68], [70]: SAYINGS led into other RULES and back."""

    def test_self_away(self):
        for k, rules in enumerate((("self",), ("back", "self"), ("on", "self"), ("back", "on", "self"))):
            less = house_of(rules[:-1])
            for s in some_sayings(1300 + k, 40, hands=("h",), most_atoms=3) + [so(must("h", A), A), may("h", T)]:
                there = answered(less, self_away(s, "h"))
                self.assertEqual(there[0], answered(house_of(rules), s)[0])
                if there[0] == "against":
                    web = web_with_self(there[1], "h")
                    self.assertIs(lets_answered(house_of(rules), s, ("against", web, there[2])), False)

    def test_must_ahead(self):
        house = house_of(("back", "on", "self"))
        for s in some_sayings(1310, 80, hands=("h",), most_atoms=3) + [so(must("h", A), A), so(A, must("h", may("h", A)))]:
            word = answered(house, s)[0]
            for rules in (("on", "round"), ("on", "round", "step")):
                there = answered(house_of(rules), must_ahead(s, "h"))
                self.assertEqual(there[0], word)
                if there[0] == "against":
                    web = web_behind(there[1], "h", there[2])
                    self.assertIs(lets_web(house, web), True)
                    self.assertLess(len(worlds_where(web, s)), web[0])

    def test_grown(self):
        house = house_of(("on", "self"))
        webs = [web for many in (1, 2) for web in webs_of(house, many, ("a", "b")) if does_grow(web, "h")]
        for s in grown_sayings(1320, 60, depth=2) + [so(A, no(no(A))), so(no(no(A)), A), either(A, no(A)), so(A, A)]:
            led = grown_led(s, "h")
            found = answered(house, led)
            for web in webs:
                for world in range(web[0]):
                    self.assertEqual(comes_true(web, "h", world, s), holds_at(web, world, led))
                    if found[0] == "shown":
                        self.assertIs(comes_true(web, "h", world, s), True)
            if found[0] == "against":
                web = grown_web(found[1], "h")
                self.assertIs(does_grow(web, "h"), True)
                self.assertIs(comes_true(web, "h", found[2], s), False)


class Books(unittest.TestCase):
    """[3], [76], [84], [86] to [88]: books, their texts, desks."""

    def done_book(self, chance, house, many):
        book, plain = Book(house), PlainBook(house)
        for _ in range(many):
            row = next_row(chance, plain)
            if told_or_refused(plain.do, row)[0] != "refused":
                book.do_all((row,))
        return book

    def test_just_those_stand_that_the_judge_lets_by(self):
        chance = random.Random(1330)
        for house in let_houses(1331, 40):
            book = self.done_book(chance, house, 30)
            library = ()
            for name in book.showing_names():
                thing = book.showing_kept(name)
                self.assertEqual(lets_showing(book.house(), thing, library=library), book.saying_kept(name))
                whole = book.whole_showing(name, most=10 ** 6)
                self.assertEqual(lets_showing(book.house(), whole), book.saying_kept(name))
                self.assertEqual(answered(book.house(), book.saying_kept(name))[0], "shown")
                library = tuple(sorted((*library, (name, book.saying_kept(name)))))
            self.assertEqual(book.library(), library)

    def test_what_is_refused_leaves_all_whole(self):
        chance = random.Random(1332)
        refused = 0
        for house in let_houses(1333, 40):
            book = self.done_book(chance, house, 20)
            ahead = (book.log(), book.house(), book.showing_names(), book.library())
            rows = [some_deed(chance) for _ in range(3)]
            try:
                book.do_all(rows)
            except (MustError, LackError):
                refused += 1
                self.assertEqual((book.log(), book.house(), book.showing_names(), book.library()), ahead)
                self.assertEqual(book.walks(), 0)
        self.assertGreater(refused, 20)

    def test_read_and_written(self):
        chance = random.Random(1334)
        for house in let_houses(1335, 40):
            self.assertEqual(read_house(house_word(house)), house)
            book = self.done_book(chance, house, 20)
            lines = log_lines(book.log())
            self.assertEqual(read_log(lines), book.log())
            self.assertEqual(log_lines(read_log(lines)), lines)
            for row in [some_deed(chance) for _ in range(6)]:
                self.assertEqual(read_deed(deed_line(row)), row)
                self.assertEqual(deed_line(read_deed(deed_line(row))), deed_line(row))
            thing = some_showing(chance)
            self.assertEqual(read_showing(showing_text(thing)), thing)

    def test_a_desk_and_a_book_of_its_log_tell_the_same(self):
        chance = random.Random(1336)
        for house in let_houses(1337, 30):
            desk, plain = Desk(), PlainBook(house)
            desk.say("book " + house_word(house))
            for _ in range(20):
                row = next_row(chance, plain)
                if told_or_refused(plain.do, row)[0] == "refused":
                    continue
                desk.say(deed_line(row))
                book = replayed(read_log(desk.say("log").split(" / ")))
                self.assertEqual(desk.say("log"), str(book))
                self.assertEqual(desk.say("count"), str(len(book)))
                self.assertEqual(desk.say("house"), house_word(book.house()))
                self.assertEqual(desk.say("names"), " ".join(book.showing_names()) or "-")
                for name in book.showing_names():
                    self.assertEqual(desk.say("saying " + name), saying_text(book.saying_kept(name)))
                    self.assertEqual(desk.say("showing " + name), showing_text(book.showing_kept(name)))
                    self.assertEqual(desk.say("whole " + name), str(len(book.whole_showing(name))))
                s = some_saying(chance, 2, hands=hands_there(book.house()))
                self.assertEqual(desk.say("ask " + saying_text(s)), book.ask(s)[0])

    def test_two_have_nothing_in_common_and_what_is_told_stays(self):
        house = house_of(("self",))
        one, other = replayed((("book", house),)), replayed((("book", house),))
        self.assertEqual(one, other)
        s = so(must("h", A), A)
        one.lay("a", ((s, ("rule", "self", "h", A)),))
        log, names, library = one.log(), one.showing_names(), one.library()
        self.assertEqual((len(other), other.showing_names()), (0, ()))
        one.take("h", "self")
        self.assertEqual((log, names, library), ((("book", house), ("lay", "a", ((s, ("rule", "self", "h", A)),))),
                                                 ("a",), (("a", s),)))
        desk, second = Desk(), Desk()
        desk.say("book h:self/-")
        second.say("book h:-/-")
        self.assertEqual((desk.say("house"), second.say("house")), ("h:self/-", "h:-/-"))

    def test_kept_it_stands_as_long_as_nothing_is_taken_that_it_hangs_on(self):
        s = so(must("h", A), A)
        book = Book(((("h", ("self",)), ("k", ("on",))), ()))
        book.lay("a", ((s, ("rule", "self", "h", A)),))
        book.lay("b", ((s, ("by", "a")), (must("k", s), ("must", 0, "k", 0))))
        for deed in (("take", "k", "on"), ("put", "k", "self"), ("bridge", "h", "k"), ("unbridge", "h", "k"),
                     ("hand", "j"), ("put", "h", "on"), ("bare", "j"), ("take", "h", "on")):
            book.do_all([deed])
            self.assertEqual(book.showing_names(), ("a", "b"))
        self.assertEqual(book.take("h", "self"), ((("a", "rule", 0), ("b", "by", 0)), 2))
        book.undo()
        self.assertEqual(book.drop("a"), ((("b", "by", 0),), 1))
        book.undo()
        self.assertEqual(book.bare("k"), ((("b", "hand", 1),), 1))

    def test_showings_led_are_kept_where_they_are_led_to(self):
        one, other = house_of(("back", "step")), house_of(("on", "round", "self"))
        book = Book(other)
        for k, s in enumerate((may("h", T), so(no(C), must("h", no(must("h", C)))), so(may("h", must("h", B)), B))):
            found = answered(one, s)
            told_by_book = book.lay("abc"[k], showing_led(one, other, found[1]))
            self.assertEqual(told_by_book, (s, (), 0))
        self.assertEqual([triple[0] for triple in book.take("h", "self")[0]], ["a", "b", "c"])
