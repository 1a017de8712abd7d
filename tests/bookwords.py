"""Texts of [80] to [82], and what a line's words are by [83], gone through plainly; SHOWINGS to be kept.

Nothing here is taken from the program but the reading of one SAYING, which has its own tests.
"""

import random
import re

from mustmays.errors import NoText
from mustmays.sayingreadings import saying_read
from tests.judges import any_house, draft_refusal, is_plain
from tests.plainly import A, B, F, T, either, must, no, so, some_saying
from tests.test_sayingtexts import plain_text

WORD = "[a-z]{1,8}"
NUMBER = "(0|[1-9][0-9]{0,59})"
RULE = "(back|ends|on|round|self|step)"


def house_text(house):
    hands = ";".join(f"{hand}:{','.join(rules) if rules else '-'}" for hand, rules in house[0])
    return hands + "/" + (";".join(f"{one}>{other}" for one, other in house[1]) if house[1] else "-")


def why_words(why):
    word, *rest = why
    if word == "from":
        return ["from", ",".join(map(str, rest[0])) if rest[0] else "-"]
    return [word] + [x if isinstance(x, str) else str(x) if isinstance(x, int) else plain_text(x) for x in rest]


def rows_text(showing):
    return " | ".join(" ".join([plain_text(s)] + why_words(why)) for s, why in showing)


def line_of(row):
    if row[0] == "book":
        return "book " + house_text(row[1])
    if row[0] == "lay":
        return "lay " + row[1] + " " + rows_text(row[2])
    return " ".join(row)


def is_house_word(word):
    """Whether a word is that of a HOUSE: some HOUSE's text."""
    found = re.fullmatch(r"([a-z:,;-]*)/([a-z>;-]*)", word)
    if not found:
        return False
    hands = [tuple(part.split(":")) for part in found[1].split(";")]
    if any(len(pair) != 2 for pair in hands):
        return False
    house = (
        tuple((hand, () if rules == "-" else tuple(rules.split(","))) for hand, rules in hands),
        () if found[2] == "-" else tuple(tuple(part.split(">")) for part in found[2].split(";")))
    return any_house(house) and house_text(house) == word


def is_let_house_word(word):
    if not is_house_word(word):
        return False
    hands, bridges = word.split("/")
    return draft_refusal((
        tuple((p.split(":")[0],
        () if p.endswith("-") else tuple(p.split(":")[1].split(","))) for p in hands.split(";")),
        () if bridges == "-" else tuple(tuple(p.split(">")) for p in bridges.split(";")))) is None


def is_saying_word(word):
    try:
        return is_plain(saying_read(word))
    except NoText:
        return False


def fits_word(kind, word):
    if kind == "SAYING":
        return is_saying_word(word)
    if kind == "HOUSE":
        return is_house_word(word)
    if kind == "LET HOUSE":
        return is_let_house_word(word)
    return re.fullmatch(kind, word) is not None


WHYS = {
    "from": [f"(-|{NUMBER}(,{NUMBER})*)"], "must": [NUMBER, WORD, NUMBER], "rule": [WORD, WORD, "SAYING"],
    "bridge": [WORD, WORD, "SAYING"], "by": [WORD]}
DEEDS = {
    "drop": [WORD], "hand": [WORD], "bare": [WORD], "put": [WORD, RULE], "take": [WORD, RULE], "bridge": [WORD, WORD],
    "unbridge": [WORD, WORD]}


def showing_word(words):
    """The first word of a SHOWING's words that can't stand, or how many there are where one lacks.

    None where all do.
    """
    at = 0
    while True:
        kinds = ["SAYING", "(from|must|rule|bridge|by)"]
        if at + 1 < len(words) and words[at + 1] in WHYS:
            kinds += WHYS[words[at + 1]]
        for kind in kinds:
            if at == len(words) or not fits_word(kind, words[at]):
                return at
            at += 1
        if at == len(words):
            return None
        if words[at] != "|":
            return at
        at += 1


def straight_word(kinds, words):
    """The same of words of just these kinds."""
    for at, kind in enumerate(kinds):
        if at == len(words) or not fits_word(kind, words[at]):
            return at
    return len(kinds) if len(words) > len(kinds) else None


def deed_word(words):
    if words[0] == "lay":
        if len(words) < 2 or not fits_word(WORD, words[1]):
            return 1
        found = showing_word(words[2:])
        return None if found is None else found + 2
    if words[0] not in DEEDS:
        return 0
    return straight_word([words[0], *DEEDS[words[0]]], words)


def log_refusal(lines):
    """(line, word) of the first refusal of [83], None where there is none."""
    if not lines:
        return (0, 0)
    for line, text in enumerate(lines):
        words = text.split(" ")
        found = straight_word(["book", "LET HOUSE"], words) if line == 0 else deed_word(words)
        if found is not None:
            return (line, found)
    return None


def bent_texts(seed, texts, many):
    """So many texts, each with one spot turned, always the same for a seed."""
    chance = random.Random(seed)
    found = []
    for _ in range(many):
        text = chance.choice(texts)
        if chance.random() < 0.5:
            words = text.split(" ")
            at = chance.randrange(len(words))
            turn = chance.random()
            if turn < 0.3:
                words[at:at + 1] = []
            elif turn < 0.5:
                words[at:at] = [chance.choice(("", "a", "0", "-", "|", "h", "on", "from", "by", "T", "{a}b", "00"))]
            elif turn < 0.8:
                words[at] = chance.choice(("", "a", "A", "0", "01", "-", "|", "must", "book", "drop", "1,0", "9" * 61,
                    "ends"))
            else:
                words = words[:at]
            found.append(" ".join(words))
        else:
            at = chance.randrange(len(text) + 1)
            sign = chance.choice(" abhk0129-|/:;,>&~[]{}()TF")
            found.append(text[:at] + chance.choice(("", sign)) + text[at + chance.choice((0, 1)):])
    return found


def some_why(chance, k):
    """A why by kind, right or not, its NUMBERS from 0 on."""
    kind = chance.choice(("from", "must", "rule", "bridge", "by"))
    hand, other = chance.choice("hjk"), chance.choice("hjk")
    if kind == "from":
        return ("from", tuple(chance.randrange(12) for _ in range(chance.choice((0, 1, 2, 3)))))
    if kind == "must":
        return ("must", chance.choice((0, k, 10 ** 59)), hand, chance.choice((0, 1, 10)))
    if kind == "rule":
        return ("rule", chance.choice(("on", "self", "none")), hand, some_saying(chance, 2))
    if kind == "bridge":
        return ("bridge", hand, other, some_saying(chance, 1))
    return ("by", chance.choice("abc"))


def some_showing(chance):
    """A SHOWING by kind."""
    return tuple((some_saying(chance, chance.choice((0, 1, 3))),
        some_why(chance, k)) for k in range(chance.choice((1, 2, 4))))


def some_deed(chance):
    """A deed's row by kind."""
    word = chance.choice(("lay", "lay", *DEEDS))
    name, hand = chance.choice(("a", "b", "abcdefgh")), chance.choice("hjk")
    if word == "lay":
        return ("lay", name, some_showing(chance))
    if word == "drop":
        return ("drop", name)
    if word in ("hand", "bare"):
        return (word, hand)
    if word in ("put", "take"):
        return (word, hand, chance.choice(("back", "ends", "on", "round", "self", "step")))
    return (word, hand, chance.choice("hjk"))


def showing_for(chance, house, kept):
    """A SHOWING that may well be let by: by what is kept, by SCHEMES, musted, drawn together; with luck by all."""
    rows = []
    rules = dict(house[0])
    for name, s in kept:
        if chance.random() < 0.3:
            rows.append((s, ("by", name)))
    for _ in range(chance.choice((0, 1, 1, 2))):
        hand = chance.choice("hjk")
        p = chance.choice((A, B, must(hand, A), either(A, B)))
        word = chance.choice(("back", "on", "self", "step", "round", *rules.get(hand, ())))
        m = must(hand, p)
        s = {"step": no(must(hand, F)), "self": so(m, p), "on": so(m, must(hand, m)),
             "back": so(no(p), must(hand, no(m))), "round": so(no(m), must(hand, no(m))),
             "ends": so(must(hand, so(m, p)), m)}[word]
        rows.append((s, ("rule", word, hand, chance.choice((p, must("j", A))) if word == "step" else p)))
    if house[1] and chance.random() < 0.4:
        one, other = chance.choice(house[1])
        rows.append((so(must(one, B), must(other, B)), ("bridge", one, other, B)))
    if chance.random() < 0.3:
        rows.append((chance.choice((T, so(A, A))), ("from", ())))
    if rows and chance.random() < 0.4:
        k = chance.randrange(len(rows))
        rows.append((must("h", rows[k][0]), ("must", k, "h", 0)))
    if rows and chance.random() < 0.4:
        k = chance.randrange(len(rows))
        rows.append((either(rows[k][0], B), ("from", (k,))))
    return tuple(rows) or ((T, ("from", ())),)
