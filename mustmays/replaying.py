"""A LOG done anew."""

from mustmays.books import Book


def replayed(log):
    """A new BOOK at which the deeds of a LOG were done, or the first refusal."""
    book = Book(log[0][1])
    book.do_all(log[1:])
    return book
