"""Texts read as SAYINGS."""

from mustmays.errors import NoText
from mustmays.sayingkinds import is_word

WORDS_OF_SIGNS = {"&": "and", "|": "or"}


def saying_read(text):
    """The SAYING that a text writes; NoText(0, 0) where it writes none."""
    saying = saying_in(text)
    if saying is None:
        raise NoText(0, 0)
    return saying


def saying_in(text):
    """The SAYING that a text writes; None where it writes none."""
    reader = TextReader(text)
    saying = None
    while saying is None and not reader.failed:
        saying = reader.read_on()
    if reader.failed or reader.at < len(text):
        return None
    return saying


class TextReader:
    """Reads a text sign by sign: at is the next one's place, begun has what still waits for a SAYING.

    What waits is a list, no call within a call: texts may be long and SAYINGS deep.
    """

    def __init__(self, text):
        self.text = text
        self.at = 0
        self.begun = []
        self.failed = False

    def read_on(self):
        """The whole SAYING where the next one ends it; None where there is more to come, or it fails."""
        saying = self.begin()
        while saying is not None and self.begun:
            saying = self.end_with(saying)
        return saying

    def begin(self):
        """The SAYING that stands next, if it is a letter, T or F; else something more is begun, or it fails."""
        sign = self.take_sign()
        if sign == "T":
            return ("and", ())
        if sign == "F":
            return ("or", ())
        if "a" <= sign <= "z":
            return self.letter_from(self.at - 1)
        if sign == "~":
            self.begun.append(("not",))
        elif sign == "{":
            self.begun.append(("told",))
        elif sign == "(":
            self.begin_brackets()
        elif sign == "[":
            self.begin_hand("must", "]")
        elif sign == "<":
            self.begin_hand("may", ">")
        else:
            self.failed = True
        return None

    def letter_from(self, start):
        """The letter whose WORD starts at a place."""
        while "a" <= self.next_sign() <= "z":
            self.at += 1
        word = self.text[start:self.at]
        if not is_word(word):
            self.failed = True
        return ("letter", word)

    def begin_brackets(self):
        """Brackets with a sign ahead have one SAYING, else there are more to come."""
        sign = self.next_sign()
        if sign in ("&", "|"):
            self.at += 1
            self.begun.append((sign,))
        else:
            self.begun.append(("(", ""))

    def begin_hand(self, word, closing):
        """A HAND up to the closing sign."""
        end = self.text.find(closing, self.at)
        hand = self.text[self.at:max(end, self.at)]
        if not is_word(hand):
            self.failed = True
        self.begun.append((word, hand))
        self.at = end + 1

    def end_with(self, saying):
        """What the last that was begun is with a SAYING behind it; None where it needs more, or it fails."""
        last = self.begun.pop()
        word = last[0]
        if word in ("not", "must", "may") or (word == "told" and len(last) == 2):
            return (*last, saying)
        if word == "told":
            self.pass_sign("}")
            self.begun.append((word, saying))
            return None
        if word == "(":
            return self.end_brackets(last[1], (*last[2:], saying))
        self.pass_sign(")")
        return (WORDS_OF_SIGNS[word], (saying,))

    def end_brackets(self, between, some):
        """What brackets with some SAYINGS are, by the sign between them ("" of the first alone)."""
        sign = self.take_sign()
        if sign == ")" and between in ("&", "|"):
            return (WORDS_OF_SIGNS[between], some)
        if sign == ")" and between == ">":
            return ("so", *some)
        if sign in ("&", "|", ">") and (between == "" or (sign == between and sign != ">")):
            self.begun.append(("(", sign, *some))
        else:
            self.failed = True
        return None

    def next_sign(self):
        """The sign that stands next, "" at the end."""
        return self.text[self.at:self.at + 1]

    def take_sign(self):
        """The same, and go on behind it."""
        sign = self.next_sign()
        self.at += 1
        return sign

    def pass_sign(self, wanted):
        """Go on behind a sign that must stand next."""
        if self.take_sign() != wanted:
            self.failed = True
