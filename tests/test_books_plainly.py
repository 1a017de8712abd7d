"""[72] to [79]: long rows of deeds at a BOOK, and at one that goes through the document's words plainly."""

import random
import unittest

from mustmays.booklogs import is_log
from mustmays.bookreadings import read_deed, read_log
from mustmays.books import Book
from mustmays.booktexts import log_lines
from mustmays.errors import LackError, MustError
from mustmays.showjudge import lets_showing
from tests.bookwords import line_of, showing_for
from tests.judges import bent_ones, let_houses, showing_refusal
from tests.plainbook import PlainBook, Refused

WORDS = ("back", "ends", "on", "round", "self", "step")


def next_row(chance, plain):
    """A deed that may well be done, and may well be refused."""
    hand, other = chance.choice("hhjjkkx"), chance.choice("hhjjkkx")
    kind = chance.choice(("lay", "lay", "lay", "lay", "drop", "hand", "bare", "put", "put", "take", "bridge", "bridge",
        "unbridge"))
    if kind == "lay":
        kept = [(name, thing[-1][0]) for name, thing in plain.kept]
        thing = showing_for(chance, plain.now, kept)
        if chance.random() < 0.15:
            thing = bent_ones(chance.randrange(10 ** 6), [thing], 1)[0]
        return ("lay", chance.choice("abcdef"), thing)
    if kind == "drop":
        return ("drop", chance.choice([name for name, thing in plain.kept] + ["a", "z"]))
    if kind in ("hand", "bare"):
        return (kind, hand)
    if kind in ("put", "take"):
        return (kind, hand, chance.choice(WORDS))
    return (kind, hand, other)


def done(book, row):
    """What a deed tells, told by its method."""
    word, *rest = row
    method = {"lay": book.lay, "drop": book.drop, "hand": book.add_hand, "bare": book.bare, "put": book.put,
              "take": book.take, "bridge": book.bridge, "unbridge": book.unbridge}[word]
    return method(*rest)


def told_or_refused(deed, row):
    try:
        return deed(row)
    except Refused as refused:
        return ("refused",) + refused.args
    except (MustError, LackError) as refused:
        return ("refused", type(refused).__name__) + tuple(vars(refused).values())


class Plainly(unittest.TestCase):
    def check_state(self, book, plain):
        self.assertEqual(book.house(), plain.now)
        self.assertEqual(book.showing_names(), tuple(plain.names()))
        self.assertEqual(book.library(), plain.library(plain.kept))
        self.assertEqual(book.log(), (("book", plain.first), *plain.rows))
        self.assertEqual(len(book), len(plain.rows))
        self.assertEqual(book.walks(), 0)
        for name, thing in plain.kept:
            self.assertEqual(book.showing_kept(name), thing)
            self.assertEqual(book.saying_kept(name), thing[-1][0])

    def check_wholes(self, book, plain):
        """[76]: just those that the judge lets by, and the WHOLE of each is let by without a LIBRARY."""
        standing = []
        for name, thing in plain.kept:
            self.assertIsNone(showing_refusal(plain.now, thing, plain.library(standing)))
            standing.append((name, thing))
            whole = book.whole_showing(name, most=10 ** 6)
            self.assertEqual(whole, plain.whole(name))
            if len(whole) < 60:
                self.assertEqual(lets_showing(plain.now, whole), thing[-1][0])

    def walk(self, chance, house, many):
        book, plain = Book(house), PlainBook(house)
        counts = {}
        for _ in range(many):
            if plain.rows and chance.random() < 0.1:
                self.assertEqual(book.undo(), plain.rows.pop())
                plain.now, plain.kept = plain.past.pop()
            else:
                row = next_row(chance, plain)
                told = told_or_refused(lambda row: done(book, row), row)
                self.assertEqual(told, told_or_refused(plain.do, row), row)
                fell = "refused" if told[0] == "refused" else len(told[-2])
                counts[row[0], fell] = counts.get((row[0], fell), 0) + 1
            self.check_state(book, plain)
        self.check_wholes(book, plain)
        return book, plain, counts

    def test_rows_of_deeds(self):
        chance = random.Random(750)
        counts = {}
        for house in let_houses(751, 60):
            book, plain, more = self.walk(chance, house, 50)
            for key, many in more.items():
                counts[key] = counts.get(key, 0) + many
            self.assertEqual([book.elder(k) for k in range(len(book) + 1)],
                [then for then, kept in plain.past] + [plain.now])
            self.assertEqual(str(book), " / ".join(line_of(row) for row in book.log()))
            self.assertTrue(is_log(book.log()))
        words = {word for word, fell in counts}
        self.assertEqual(words, {"lay", "drop", "hand", "bare", "put", "take", "bridge", "unbridge"})
        for word in words:
            self.assertGreater(counts.get((word, 0), 0), 3, word)
            self.assertGreater(counts.get((word, "refused"), 0), 3, word)
        for word in ("lay", "drop", "bare", "take", "unbridge"):
            self.assertGreater(sum(many for (other, fell), many in counts.items() if other == word and fell not in (0,
                "refused")), 0)
        # [76]: a put, an add_hand, a bridge lets none fall.
        for word in ("put", "hand", "bridge"):
            self.assertEqual({fell for other, fell in counts if other == word}, {0, "refused"})

    def test_done_in_one(self):
        chance = random.Random(752)
        whole = 0
        for house in let_houses(753, 60):
            book, plain, counts = self.walk(chance, house, 12)
            rows = []
            shadow = PlainBook(house)
            for row in plain.rows:
                shadow.do(row)
            for _ in range(4):
                row = next_row(chance, shadow)
                rows.append(row)
                if told_or_refused(shadow.do, row)[0] == "refused" and chance.random() < 0.5:
                    rows.pop()
            keep = chance.random() < 0.5
            ahead = len(plain.rows)
            told = None
            for row in rows:
                found = told_or_refused(plain.do, row)
                if found[0] == "refused":
                    told = found
                    break
            while told is not None and not keep and len(plain.rows) > ahead:
                plain.rows.pop()
                plain.now, plain.kept = plain.past.pop()
            given = rows if chance.random() < 0.5 else tuple(rows)
            found = told_or_refused(lambda given: book.do_all(given, keep=keep), given)
            self.assertEqual(found, len(rows) if told is None else told)
            whole += told is None
            self.check_state(book, plain)
            while plain.rows:
                self.assertEqual(book.undo(), plain.rows.pop())
                plain.now, plain.kept = plain.past.pop()
                self.check_state(book, plain)
        self.assertTrue(10 < whole < 50, whole)

    def test_all_again_by_the_log(self):
        chance = random.Random(754)
        for house in let_houses(755, 25):
            book, plain, counts = self.walk(chance, house, 40)
            other = Book(house)
            self.assertEqual(other.do_all(book.log()[1:]), len(book))
            self.assertTrue(book == other)
            self.check_state(other, plain)
            self.assertEqual(read_log(log_lines(book.log())), book.log())
            for row, line in zip(book.log()[1:], log_lines(book.log())[1:]):
                self.assertEqual(read_deed(line), row)
