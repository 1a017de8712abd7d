"""A desk: a BOOK that is asked with texts and answers with texts."""

from mustmays.bookreadings import DEED_WORDS, LineReader
from mustmays.books import Book
from mustmays.booktexts import deed_line, house_word, showing_text
from mustmays.errors import NoRow, NoText
from mustmays.sayingtexts import saying_text

LONE_WORDS = ("undo", "count", "log", "house", "names")
NAME_WORDS = ("saying", "showing", "whole")


class Desk:
    """Has a BOOK, at first none."""

    def __init__(self):
        self.book = None

    def say(self, asking):
        """The answer to a row; NoRow, or as the BOOK refuses."""
        row = row_asked(asking)
        if row is None or (self.book is None and row[0] != "book"):
            raise NoRow(asking)
        if row[0] == "book":
            self.book = Book(row[1])
            return "ok"
        if row[0] in DEED_WORDS:
            return self.say_deed(row)
        if row[0] in NAME_WORDS:
            return self.say_kept(row[0], row[1])
        if row[0] == "ask":
            return self.book.ask(row[1])[0]
        return self.say_lone(row[0])

    def say_deed(self, row):
        """Who FELL by a deed, of lay what it SHOWS ahead of that."""
        told = self.book.do_deed(row)
        fell = ",".join([triple[0] for triple in told[-2]]) or "-"
        if row[0] == "lay":
            return saying_text(told[0]) + " " + fell
        return fell

    def say_kept(self, word, name):
        """What is asked of a KEPT one."""
        if word == "saying":
            return saying_text(self.book.saying_kept(name))
        if word == "showing":
            return showing_text(self.book.showing_kept(name))
        return str(len(self.book.whole_showing(name)))

    def say_lone(self, word):
        """What is asked by one word alone."""
        if word == "undo":
            return deed_line(self.book.undo())
        if word == "count":
            return str(len(self.book))
        if word == "log":
            return str(self.book)
        if word == "house":
            return house_word(self.book.house())
        return " ".join(self.book.showing_names()) or "-"


def row_asked(asking):
    """The row that a text asks with; None where it is none."""
    try:
        reader = LineReader(0, asking)
        row = read_asking(reader)
        reader.end()
        return row
    except NoText:
        return None


def read_asking(reader):
    """The row that a desk's words are; NoText."""
    word = reader.next_word()
    if word == "book":
        return reader.take_book()
    if word in DEED_WORDS:
        return reader.take_deed()
    if word in NAME_WORDS:
        return (reader.take_one_of(NAME_WORDS), reader.take_word())
    if word == "ask":
        return (reader.take_one_of(("ask",)), reader.take_saying())
    return (reader.take_one_of(LONE_WORDS),)
