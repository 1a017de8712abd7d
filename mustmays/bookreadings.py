"""Texts read as HOUSES, SHOWINGS, deeds and LOGS, word by word."""

from mustmays.bounds import LET_WORDS
from mustmays.errors import NoText
from mustmays.rulekinds import draft_fault, is_house
from mustmays.sayingkinds import is_plain_saying, is_word
from mustmays.sayingreadings import saying_in

DEED_WORDS = ("lay", "drop", "hand", "bare", "put", "take", "bridge", "unbridge")
WHY_WORDS = ("from", "must", "rule", "bridge", "by")
MOST_FIGURES = 60


def read_house(text):
    """The HOUSE that a text writes, be it LET or not; NoText(0, word)."""
    reader = LineReader(0, text)
    house = reader.take_house()
    reader.end()
    return house


def read_showing(text):
    """The SHOWING by kind that a text writes; NoText(0, word)."""
    return LineReader(0, text).take_showing()


def read_deed(text):
    """The row of a deed that a text writes; NoText(0, word)."""
    reader = LineReader(0, text)
    deed = reader.take_deed()
    reader.end()
    return deed


def read_log(lines):
    """The LOG that a list of lines writes; NoText(line, word)."""
    if not lines:
        raise NoText(0, 0)
    rows = []
    for line, text in enumerate(lines):
        reader = LineReader(line, text)
        rows.append(reader.take_book() if line == 0 else reader.take_deed())
        reader.end()
    return tuple(rows)


class LineReader:
    """Reads a line word by word: at is the next word's place; what can't stand there is refused with NoText."""

    def __init__(self, line, text):
        self.line = line
        self.words = text.split(" ")
        self.at = 0

    def next_word(self):
        """The next word, whatever it is; refused where it lacks."""
        if self.at == len(self.words):
            raise NoText(self.line, self.at)
        return self.words[self.at]

    def taken(self, thing):
        """What the next word was read as, gone on behind it; refused where that is None."""
        if thing is None:
            raise NoText(self.line, self.at)
        self.at += 1
        return thing

    def end(self):
        """Refuse a word more."""
        if self.at < len(self.words):
            raise NoText(self.line, self.at)

    def take_one_of(self, words):
        """The next word, one of these."""
        word = self.next_word()
        return self.taken(word if word in words else None)

    def take_word(self):
        """The next word, a WORD."""
        word = self.next_word()
        return self.taken(word if is_word(word) else None)

    def take_number(self):
        """The next word as a NUMBER."""
        return self.taken(number_in(self.next_word()))

    def take_saying(self):
        """The next word as a PLAIN SAYING."""
        return self.taken(plain_saying_in(self.next_word()))

    def take_house(self):
        """The next word as a HOUSE, be it LET or not."""
        return self.taken(house_in(self.next_word()))

    def take_book(self):
        """The words of a LOG's first row: its HOUSE is LET."""
        word = self.take_one_of(("book",))
        house = house_in(self.next_word())
        if house is not None and draft_fault(house) is not None:
            house = None
        return (word, self.taken(house))

    def take_deed(self):
        """The words of a deed's row."""
        word = self.take_one_of(DEED_WORDS)
        name = self.take_word()
        if word == "lay":
            return (word, name, self.take_showing())
        if word in ("put", "take"):
            return (word, name, self.take_one_of(LET_WORDS))
        if word in ("bridge", "unbridge"):
            return (word, name, self.take_word())
        return (word, name)

    def take_showing(self):
        """The words of a SHOWING, up to the last."""
        rows = [self.take_row()]
        while self.at < len(self.words):
            self.take_one_of(("|",))
            rows.append(self.take_row())
        return tuple(rows)

    def take_row(self):
        """The words of a SHOWING's row."""
        saying = self.take_saying()
        word = self.take_one_of(WHY_WORDS)
        if word == "from":
            return (saying, (word, self.taken(numbers_in(self.next_word()))))
        if word == "by":
            return (saying, (word, self.take_word()))
        if word == "must":
            return (saying, (word, self.take_number(), self.take_word(), self.take_number()))
        return (saying, (word, self.take_word(), self.take_word(), self.take_saying()))


def number_in(word):
    """The NUMBER from 0 on that a word writes; None where it writes none."""
    if not 1 <= len(word) <= MOST_FIGURES or not all(["0" <= sign <= "9" for sign in word]):
        return None
    if word[0] == "0" and word != "0":
        return None
    return int(word)


def numbers_in(word):
    """The NUMBERS that a word writes, a tuple; None where it writes none such."""
    numbers = [number_in(part) for part in parts_between(word, ",")]
    return None if None in numbers else tuple(numbers)


def plain_saying_in(word):
    """The PLAIN SAYING that a word writes; None where it writes none."""
    saying = saying_in(word)
    return saying if is_plain_saying(saying) else None


def house_in(word):
    """The HOUSE that a word writes, be it LET or not; None where it writes none."""
    halves = word.split("/")
    if len(halves) != 2:
        return None
    hands = []
    for part in halves[0].split(";"):
        pair = part.split(":")
        if len(pair) != 2:
            return None
        hands.append((pair[0], tuple(parts_between(pair[1], ","))))
    bridges = [tuple(part.split(">")) for part in parts_between(halves[1], ";")]
    house = (tuple(hands), tuple(bridges))
    return house if is_house(house) else None


def parts_between(text, sign):
    """The parts of a text between signs, none of "-"."""
    return [] if text == "-" else text.split(sign)
