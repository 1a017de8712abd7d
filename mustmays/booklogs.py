"""Of any thing: is it a LOG of a BOOK."""

from mustmays.bounds import LET_WORDS
from mustmays.rulekinds import draft_fault, is_draft
from mustmays.sayingkinds import is_word
from mustmays.showjudge import is_showing
from mustmays.webkinds import is_pair


def is_log(thing):
    """Whether any thing is a LOG by kind."""
    if not isinstance(thing, tuple) or not thing or not is_first_row(thing[0]):
        return False
    return all([is_deed(row) for row in thing[1:]])


def is_first_row(thing):
    """Whether any thing is the first row of a LOG: ("book", a LET HOUSE)."""
    return is_pair(thing) and thing[0] == "book" and is_draft(thing[1]) and draft_fault(thing[1]) is None


def is_deed(thing):
    """Whether any thing is the row of a deed by kind."""
    if not isinstance(thing, tuple) or len(thing) not in (2, 3) or not is_word(thing[1]):
        return False
    word = thing[0]
    if len(thing) == 2:
        return word in ("drop", "hand", "bare")
    if word in ("put", "take"):
        return thing[2] in LET_WORDS
    if word in ("bridge", "unbridge"):
        return is_word(thing[2])
    return word == "lay" and is_written_showing(thing[2])


def is_written_showing(thing):
    """Whether any thing is a SHOWING by kind, its NUMBERS from 0 on, words WORDS: one that can be written."""
    return is_showing(thing) and all([is_written_why(why) for saying, why in thing])


def is_written_why(why):
    """Whether the NUMBERS of a why by kind are from 0 on, the word of a "rule" a WORD."""
    if why[0] == "from":
        return all([row >= 0 for row in why[1]])
    if why[0] == "must":
        return why[1] >= 0 and why[3] >= 0
    return why[0] != "rule" or is_word(why[1])
