"""What looks at any thing must tell, by the document's own words, and things bent a little to be looked at.

Nothing here is taken from the program.
"""

import itertools
import random

from tests import plainly
from tests.plainly import F, core, hands_in, holds, is_web, must, no, outer, so, steps, tells

WORDS = ("back", "ends", "on", "round", "self", "step")


def is_word(x):
    return isinstance(x, str) and 1 <= len(x) <= 8 and set(x) <= set("abcdefghijklmnopqrstuvwxyz")


def is_number(x):
    return type(x) is int


def is_plain(x):
    """A PLAIN SAYING, by [4]."""
    if type(x) is not tuple or len(x) < 2 or type(x[0]) is not str:
        return False
    kind, rest = x[0], x[1:]
    if kind == "letter":
        return len(rest) == 1 and is_word(rest[0])
    if kind == "not":
        return len(rest) == 1 and is_plain(rest[0])
    if kind in ("and", "or"):
        return len(rest) == 1 and type(rest[0]) is tuple and all(map(is_plain, rest[0]))
    if kind == "so":
        return len(rest) == 2 and all(map(is_plain, rest))
    return kind in ("must", "may") and len(rest) == 2 and is_word(rest[0]) and is_plain(rest[1])


def tuples_of(x, many):
    return type(x) is tuple and all(type(y) is tuple and len(y) == many for y in x)


def rise(things):
    return list(things) == sorted(things) and all(x != y for x, y in itertools.combinations(things, 2))


def any_web(x):
    """Whether any thing is a WEB, by [5]: kinds first, since things may not compare."""
    if type(x) is not tuple or len(x) != 3 or not is_number(x[0]):
        return False
    for pairs in x[1:]:
        if not tuples_of(pairs, 2) or not all(is_word(name) and type(row) is tuple for name, row in pairs):
            return False
    if not all(tuples_of(pairs, 2) and all(map(is_number, sum(pairs, ()))) for name, pairs in x[1]):
        return False
    return all(all(map(is_number, worlds)) for name, worlds in x[2]) and is_web(x)


def any_rules(x):
    return type(x) is tuple and all(type(y) is str and y in WORDS for y in x) and rise(x)


def any_draft(x):
    if type(x) is not tuple or len(x) != 2 or not tuples_of(x[0], 2) or not tuples_of(x[1], 2) or x[0] == ():
        return False
    if not all(is_word(hand) and any_rules(rules) for hand, rules in x[0]):
        return False
    return rise([hand for hand, rules in x[0]]) and all(map(is_word, sum(x[1], ()))) and rise(x[1])


def let_rules(rules):
    return ("round" not in rules or "on" in rules) and ("ends" not in rules or rules == ("ends", "on"))


def any_house(x):
    if not any_draft(x) or not all(let_rules(rules) for hand, rules in x[0]):
        return False
    return all(one != other and one in dict(x[0]) and other in dict(x[0]) for one, other in x[1])


def led_by(bridges, hand):
    """The HANDS to which one bridge or more lead from a HAND."""
    found = {b for a, b in bridges if a == hand}
    while True:
        more = found | {b for a, b in bridges if a in found}
        if more == found:
            return found
        found = more


def draft_refusal(draft):
    """[27], in its order."""
    hands, bridges = draft
    rules_of = dict(hands)
    for hand, rules in hands:
        if "round" in rules and "on" not in rules:
            return ("round", hand)
        if "ends" in rules and rules != ("ends", "on"):
            return ("ends", hand)
    for one, other in bridges:
        if one not in rules_of:
            return ("lacks", one)
        if other not in rules_of:
            return ("lacks", other)
        if one == other:
            return ("same", one)
        if "ends" in rules_of[one]:
            return ("ends", one)
        if "ends" in rules_of[other]:
            return ("ends", other)
        if not set(rules_of[other]) - {"step"} <= set(rules_of[one]):
            return ("rules", one)
    for hand, rules in hands:
        if hand in led_by(bridges, hand):
            return ("ring", hand)
    return None


def lack(web, hand, rules):
    """[28]: all WORLDS are gone through as they rise."""
    found = steps(web, hand)
    # Enough of them where there are very many: one more than those from which STEPS can lead.
    worlds = sorted(set(range(min(web[0], len(found) + 1))).union(*found))
    led = set(found)
    while not led >= {(x, z) for x, y in led for v, z in found if v == y}:
        led |= {(x, z) for x, y in led for v, z in found if v == y}
    lacks = {
        "step": (1, lambda x: not any((x, y) in found for y in worlds)),
        "self": (1, lambda x: (x, x) not in found),
        "back": (2, lambda x, y: (x, y) in found and (y, x) not in found),
        "on": (3, lambda x, y, z: (x, y) in found and (y, z) in found and (x, z) not in found),
        "round": (3, lambda x, y, z: (x, y) in found and (x, z) in found and (y, z) not in found),
        "ends": (1, lambda x: (x, x) in led),
    }
    for word in rules:
        many, lacking = lacks[word]
        for some in itertools.product(worlds, repeat=many):
            if lacking(*some):
                return (word, some)
    return None


def web_refusal(house, x):
    """[29], in its order."""
    if not any_web(x):
        return ("shape", -1)
    for k, (hand, pairs) in enumerate(x[1]):
        if hand not in dict(house[0]):
            return ("hand", k)
    for i, (hand, rules) in enumerate(house[0]):
        found = lack(x, hand, rules)
        if found is not None:
            return (found[0], (i,) + found[1])
    for b, (one, other) in enumerate(house[1]):
        missing = sorted(steps(x, other) - steps(x, one))
        if missing:
            return ("bridge", (b,) + missing[0])
    return None


def scheme(house, word, hand, p):
    if word not in dict(house[0]).get(hand, ()):
        return None
    m = must(hand, p)
    return {
        "step": no(must(hand, F)),
        "self": so(m, p),
        "on": so(m, must(hand, m)),
        "back": so(no(p), must(hand, no(m))),
        "round": so(no(m), must(hand, no(m))),
        "ends": so(must(hand, so(m, p)), m),
    }[word]


def follows(premises, s):
    names = sorted(set().union(*[outer(core(t)) for t in (*premises, s)]))
    if len(names) > 16:
        return False
    for truths in itertools.product((False, True), repeat=len(names)):
        row = dict(zip(names, truths))
        if all(tells(row, core(t)) for t in premises) and not tells(row, core(s)):
            return False
    return True


def musted(s, hand, n):
    if n == 0:
        return must(hand, s)
    if n < 0 or s[0] != "so":
        return None
    rest = musted(s[2], hand, n - 1)
    return None if rest is None else so(must(hand, s[1]), rest)


def is_why(x):
    if type(x) is not tuple or not x or type(x[0]) is not str:
        return False
    kinds = {
        "from": (lambda y: type(y) is tuple and all(map(is_number, y)),),
        "must": (is_number, is_word, is_number),
        "rule": (lambda y: type(y) is str, is_word, is_plain),
        "bridge": (is_word, is_word, is_plain),
        "by": (is_word,),
    }.get(x[0])
    return kinds is not None and len(kinds) == len(x) - 1 and all(kind(y) for kind, y in zip(kinds, x[1:]))


def showing_refusal(house, x, library=()):
    """[56], in its order; None where it is let by."""
    if not tuples_of(x, 2) or x == () or not all(is_plain(s) and is_why(why) for s, why in x):
        return ("shape", -1)
    for k, (s, why) in enumerate(x):
        word, *rest = why
        if not set(hands_in(s)) <= set(dict(house[0])):
            return ("hand", k)
        rows = rest[0] if word == "from" else rest[:1] if word == "must" else ()
        if not all(0 <= row < k for row in rows) or not rise(rows):
            return ("row", k)
        right = {
            "from": lambda: follows([x[row][0] for row in rows], s),
            "must": lambda: rest[1] in dict(house[0]) and s == musted(x[rest[0]][0], rest[1], rest[2]),
            "rule": lambda: s == scheme(house, *rest),
            "bridge": lambda: tuple(rest[:2]) in house[1] and s == so(must(rest[0], rest[2]), must(rest[1], rest[2])),
            "by": lambda: (rest[0], s) in library,
        }[word]()
        if not right:
            return (word, k)
    return None


def answer_refusal(house, s, x):
    """[59], in its order; None where it is let by."""
    if type(x) is tuple and len(x) == 2 and x[0] == "shown":
        found = showing_refusal(house, x[1])
        if found is None and x[1][-1][0] != s:
            return ("other", -1)
        return found
    if type(x) is not tuple or len(x) != 3 or x[0] != "against" or not any_web(x[1]) or not is_number(x[2]):
        return ("shape", -1)
    if web_refusal(house, x[1]) is not None:
        return ("house", -1)
    if not 0 <= x[2] < x[1][0]:
        return ("world", -1)
    return ("holds", -1) if holds(x[1], x[2], s) else None


def made(house, hand):
    """RULES MADE, by [61]: the least that have all that."""
    found = {h: set(rules) for h, rules in house[0]}
    for _ in range(40):
        for h in found:
            if "self" in found[h] or any(a == h and "step" in found[b] for a, b in house[1]):
                found[h].add("step")
            if {"back", "on"} <= found[h]:
                found[h].add("round")
            if {"step", "back", "on"} <= found[h]:
                found[h].add("self")
            if {"self", "round"} <= found[h]:
                found[h].add("back")
    return tuple(sorted(found[hand]))


def beneath(one, other):
    for hand, rules in one[0]:
        if hand not in dict(other[0]) or not set(rules) <= set(made(other, hand)):
            return False
    return all(b in led_by(other[1], a) for a, b in one[1])


ODD = (
    True, False, None, 0, 1, -1, 10 ** 59, "", "a", "h", "on", "self", "abcdefghi", "A", (), [], ("letter", "a"),
    ("and", ()), (0, 0), (0,), ("h", ()), [0, 1], "from", "must", ("by", "a"), ("told", ("and", ()), ("and", ())))


def bent(chance, thing, depth=0):
    """The thing with one spot of it turned: another thing there, one gone, one twice, two exchanged, a list."""
    if not isinstance(thing, tuple) or thing == () or (depth and chance.random() < 0.2):
        if is_number(thing) and chance.random() < 0.6:
            return thing + chance.choice((-1, 1))
        return chance.choice(ODD)
    at = chance.randrange(len(thing))
    turn = chance.random()
    if turn < 0.65:
        return thing[:at] + (bent(chance, thing[at], depth + 1),) + thing[at + 1:]
    if turn < 0.75:
        return thing[:at] + thing[at + 1:]
    if turn < 0.85:
        return thing[:at] + thing[at:at + 1] + thing[at:]
    if turn < 0.95:
        return thing[:at] + thing[at:][::-1]
    return list(thing)


def bent_ones(seed, things, many):
    """So many things, each one of some bent once or twice, always the same for a seed."""
    chance = random.Random(seed)
    things = list(things)
    found = []
    for _ in range(many):
        thing = bent(chance, chance.choice(things))
        found.append(bent(chance, thing) if chance.random() < 0.3 else thing)
    return found


def drafts(seed, many):
    """DRAFTS of HANDS h, j, k and bridges between them and others, many of them near to LET HOUSES."""
    chance = random.Random(seed)
    found = []
    while len(found) < many:
        some = plainly.LET_RULES if chance.random() < 0.6 else [chance.choice(plainly.LET_RULES)]
        hands = tuple(
            (hand, tuple(sorted(chance.sample(WORDS, chance.choice((0, 1, 2, 2, 3))))) if chance.random() < 0.1
             else chance.choice(some))
            for hand in "hjk" if chance.random() < 0.8)
        names = "".join(hand for hand, rules in hands) * 6 + "hjkx"
        bridges = {(chance.choice(names), chance.choice(names)) for _ in range(chance.choice((0, 1, 2, 2, 3, 4)))}
        if chance.random() < 0.8:
            bridges = {(one, other) for one, other in bridges if one != other}
        if hands:
            found.append((hands, tuple(sorted(bridges))))
    return found


def let_houses(seed, many, most_bridges=3):
    """LET HOUSES of HANDS h, j, k, perhaps with bridges."""
    chance = random.Random(seed)
    found = []
    while len(found) < many:
        names = sorted(chance.sample("hjk", chance.choice((1, 2, 3, 3))))
        rules = {hand: chance.choice(plainly.LET_RULES) for hand in names}
        house = (tuple(rules.items()), ())
        for pair in chance.sample(list(itertools.permutations(names, 2)), len(names) * (len(names) - 1)):
            more = (house[0], tuple(sorted((*house[1], pair))))
            if len(house[1]) < most_bridges and draft_refusal(more) is None:
                house = more
        found.append(house)
    return found


def is_pair_of(x):
    return type(x) is tuple and len(x) == 2
