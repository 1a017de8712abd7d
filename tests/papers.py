"""What papers are and how they are refused, looked at by the document's own words: [35], [46] to [50].

Nothing here is taken from the program.
"""

from tests import plainly
from tests.judges import any_web, is_number, is_plain, is_word, tuples_of, web_refusal
from tests.plainly import all_sorts, classes, fits, holds, is_bad, is_of, is_web, reached, tells


def is_down_paper(house, s, paper):
    """Whether a thing is a DOWN PAPER: unlike SORTS, each of which GOES by those ahead, why is so."""
    names = plainly.atoms(s)
    ahead = []
    for sort, why in paper:
        if sort in ahead or sort not in all_sorts(s) or not why_is_so(house, s, sort, why, ahead):
            return False
        ahead.append(sort)
    return all(x in ahead or tells(dict(zip(names, x)), plainly.core(s)) for x in all_sorts(s))


def why_is_so(house, s, sort, why, ahead):
    names = plainly.atoms(s)
    rules = dict(house[0])
    here = dict(zip(names, sort))
    word, thing = why
    if word == "step":
        return "step" in rules[thing] and all(
            y in ahead for y in all_sorts(s) if fits(house, s, thing, sort, y))
    kind, hand, a = thing
    if kind != "must" or thing not in names:
        return False
    if word == "self":
        return "self" in rules[hand] and here[thing] and not tells(here, a)
    if here[thing]:
        return False
    for y in all_sorts(s):
        there = dict(zip(names, y))
        if fits(house, s, hand, sort, y) and y not in ahead and not tells(there, a):
            if not ("ends" in rules[hand] and not there[thing]):
                return False
    return True


def first_why(house, s, sort, ahead):
    """The first that is so of "self", of ATOMS as they rise, of "must", likewise, of "step", of HANDS."""
    musts = [m for m in plainly.atoms(s) if m[0] == "must"]
    whys = [("self", m) for m in musts] + [("must", m) for m in musts]
    whys += [("step", hand) for hand, rules in house[0]]
    return next(why for why in whys if why_is_so(house, s, sort, why, ahead))


def plain_paper(house, s):
    """The DOWN PAPER that [47] tells."""
    rounds, left = plainly.rounds(house, s)
    names = plainly.atoms(s)
    if not all(tells(dict(zip(names, x)), plainly.core(s)) for x in left):
        return None
    rows, ahead = [], []
    for going in rounds:
        rows += [(x, first_why(house, s, x, ahead)) for x in going]
        ahead = ahead + list(going)
    assert all(is_bad(house, s, x) for x in rounds[0])
    return tuple(rows)


def is_against(house, s, web, world):
    """Whether (web, world) is what "against" tells by [46]."""
    if not is_web(web) or not is_of(house, web) or web[0] > 32 or not 0 <= world < web[0]:
        return False
    words = {part[1] for part in plainly.parts(s) if part[0] == "letter"}
    if not {word for word, worlds in web[2]} <= words:
        return False
    if reached(web, world) != list(range(web[0])):
        return False
    return len(set(classes(web)[-1])) == web[0] and not holds(web, world, s)


def is_any_saying(x):
    """A SAYING, by [4], "told" ones too."""
    if type(x) is tuple and len(x) == 3 and x[0] == "told":
        return is_any_saying(x[1]) and is_any_saying(x[2])
    if type(x) is not tuple or len(x) < 2 or type(x[0]) is not str:
        return False
    kind, rest = x[0], x[1:]
    if kind == "letter":
        return is_plain(x)
    if kind == "not":
        return len(rest) == 1 and is_any_saying(rest[0])
    if kind in ("and", "or"):
        return len(rest) == 1 and type(rest[0]) is tuple and all(map(is_any_saying, rest[0]))
    if kind == "so":
        return len(rest) == 2 and all(map(is_any_saying, rest))
    return kind in ("must", "may") and len(rest) == 2 and is_word(rest[0]) and is_any_saying(rest[1])


def is_down_row(x):
    """A row of a DOWN PAPER by kind, [48]."""
    sort, why = x
    if type(sort) is not tuple or not all(type(truth) is bool for truth in sort):
        return False
    if type(why) is not tuple or len(why) != 2 or type(why[0]) is not str:
        return False
    if why[0] == "step":
        return is_word(why[1])
    return why[0] in ("self", "must") and is_any_saying(why[1])


def down_refusal(house, s, x):
    """[48], in its order; None where it is let by."""
    if not tuples_of(x, 2) or not all(map(is_down_row, x)):
        return ("shape", -1)
    names, rules = plainly.atoms(s), dict(house[0])
    ahead = []
    for k, (sort, (word, thing)) in enumerate(x):
        if len(sort) != len(names):
            return ("sort", k)
        if sort in ahead:
            return ("twice", k)
        if word == "step":
            if "step" not in rules.get(thing, ()):
                return ("why", k)
        elif thing not in names or thing[0] != "must" or (word == "self" and "self" not in rules[thing[1]]):
            return ("why", k)
        if not why_is_so(house, s, sort, (word, thing), ahead):
            return ("stays", k)
        ahead.append(sort)
    for j, sort in enumerate(all_sorts(s)):
        if sort not in ahead and not tells(dict(zip(names, sort)), plainly.core(s)):
            return ("lacks", j)
    return None


def against_refusal(house, s, x):
    """[49], in its order; None where it is let by."""
    if type(x) is not tuple or len(x) != 2 or not any_web(x[0]) or not is_number(x[1]):
        return ("shape", -1)
    if web_refusal(house, x[0]) is not None:
        return ("of", -1)
    if not 0 <= x[1] < x[0][0]:
        return ("world", -1)
    return ("holds", -1) if holds(x[0], x[1], s) else None


def either_refusal(house, s, x):
    """[50], in its order; None where it is let by."""
    if type(x) is tuple and len(x) == 3 and type(x[0]) is str and x[0] == "against":
        return against_refusal(house, s, x[1:])
    if type(x) is tuple and len(x) == 2 and type(x[0]) is str and x[0] == "down":
        return down_refusal(house, s, x[1])
    return ("shape", -1)


def letters_at(web, world):
    return {word for word, places in web[2] if world in places}


def led_to(web, hand, world):
    return sorted(y for x, y in plainly.steps(web, hand) if x == world)


def pairs_refusal(web, other, x):
    """[35], in its order; None where it is let by."""
    if not tuples_of(x, 2) or not all(is_number(n) for pair in x for n in pair):
        return ("shape", -1)
    for k in range(1, len(x)):
        if x[k] <= x[k - 1]:
            return ("rise", k)
    for k, (one, two) in enumerate(x):
        if one not in range(web[0]) or two not in range(other[0]):
            return ("world", k)
    for k, (one, two) in enumerate(x):
        if letters_at(web, one) != letters_at(other, two):
            return ("letter", k)
    hands = sorted({hand for hand, pairs in web[1] + other[1]})
    for k, (one, two) in enumerate(x):
        for z in range(web[0]):
            for hand in hands:
                if z in led_to(web, hand, one) and not any((z, w) in x for w in led_to(other, hand, two)):
                    return ("step", (k, z))
        for w in range(other[0]):
            for hand in hands:
                if w in led_to(other, hand, two) and not any((z, w) in x for z in led_to(web, hand, one)):
                    return ("other", (k, w))
    return None


def greatest_pairs(web, other):
    """All pairs of WORLDS that some PAIR PAPER has, rising: those that can't be are taken out one by one."""
    hands = sorted({hand for hand, pairs in web[1] + other[1]})
    found = [(x, y) for x in range(web[0]) for y in range(other[0]) if letters_at(web, x) == letters_at(other, y)]
    while True:
        kept = [
            (x, y) for x, y in found
            if all(
                all(any((z, w) in found for w in led_to(other, h, y)) for z in led_to(web, h, x))
                and all(any((z, w) in found for z in led_to(web, h, x)) for w in led_to(other, h, y))
                for h in hands)]
        if kept == found:
            return tuple(found)
        found = kept
