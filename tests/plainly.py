"""The document's own words, gone through plainly: what the tests compare the program with.

Nothing here is taken from the program. Numbers for "random" samples are fixed, so each run is the same.
"""

import itertools
import random

A = ("letter", "a")
B = ("letter", "b")
C = ("letter", "c")
T = ("and", ())
F = ("or", ())


def no(s):
    return ("not", s)


def both(*some):
    return ("and", some)


def either(*some):
    return ("or", some)


def so(s, t):
    return ("so", s, t)


def must(hand, s):
    return ("must", hand, s)


def may(hand, s):
    return ("may", hand, s)


def told(s, t):
    return ("told", s, t)


def within(s):
    if s[0] == "letter":
        return []
    if s[0] in ("and", "or"):
        return list(s[1])
    if s[0] in ("must", "may"):
        return [s[2]]
    return list(s[1:])


def parts(s):
    found = {s}
    for t in within(s):
        found |= parts(t)
    return found


def hands_in(s):
    return sorted({p[1] for p in parts(s) if p[0] in ("must", "may")})


def core(s):
    kind = s[0]
    if kind == "letter":
        return s
    if kind in ("and", "or"):
        return (kind, tuple(core(t) for t in s[1]))
    if kind == "may":
        return no(must(s[1], no(core(s[2]))))
    if kind == "must":
        return must(s[1], core(s[2]))
    return (kind,) + tuple(core(t) for t in s[1:])


def atoms(s):
    return sorted(p for p in parts(core(s)) if p[0] in ("letter", "must"))


def outer(s):
    """The atoms of a core within no "must"."""
    if s[0] in ("letter", "must"):
        return {s}
    found = set()
    for t in within(s):
        found |= outer(t)
    return found


def tells(truths, s):
    """What a core comes to by a dict of truths."""
    if s[0] in ("letter", "must"):
        return truths[s]
    if s[0] == "not":
        return not tells(truths, s[1])
    if s[0] == "and":
        return all(tells(truths, t) for t in s[1])
    if s[0] == "or":
        return any(tells(truths, t) for t in s[1])
    return tells(truths, s[2]) if tells(truths, s[1]) else True


def all_sorts(s):
    return list(itertools.product((False, True), repeat=len(atoms(s))))


def steps(web, hand):
    return set(dict(web[1]).get(hand, ()))


def cut(web, worlds):
    calls = {w: k for k, w in enumerate(sorted(worlds))}
    kept = []
    for hand, pairs in web[1]:
        some = tuple((calls[x], calls[y]) for x, y in pairs if x in calls and y in calls)
        if some:
            kept.append((hand, some))
    letters = []
    for word, places in web[2]:
        some = tuple(calls[w] for w in places if w in calls)
        if some:
            letters.append((word, some))
    return (len(calls), tuple(kept), tuple(letters)), calls


def holds(web, world, s):
    kind = s[0]
    if kind == "letter":
        return world in dict(web[2]).get(s[1], ())
    if kind == "not":
        return not holds(web, world, s[1])
    if kind == "and":
        return all(holds(web, world, t) for t in s[1])
    if kind == "or":
        return any(holds(web, world, t) for t in s[1])
    if kind == "so":
        return not holds(web, world, s[1]) or holds(web, world, s[2])
    if kind == "must":
        return all(holds(web, y, s[2]) for x, y in steps(web, s[1]) if x == world)
    if kind == "may":
        return any(holds(web, y, s[2]) for x, y in steps(web, s[1]) if x == world)
    if not holds(web, world, s[1]):
        return True
    small, calls = cut(web, [w for w in range(web[0]) if holds(web, w, s[1])])
    return holds(small, calls[world], s[2])


def fits(house, s, hand, x, y):
    """Whether the sort y FITS the sort x for a hand, by [40] word by word."""
    rules = dict(house[0])[hand]
    names = atoms(s)
    in_x, in_y = dict(zip(names, x)), dict(zip(names, y))
    for m in names:
        if m[:2] != ("must", hand):
            continue
        a = m[2]
        if in_x[m] and not tells(in_y, a):
            return False
        if "on" in rules and in_x[m] and not in_y[m]:
            return False
        if "round" in rules and in_y[m] and not in_x[m]:
            return False
        if "back" in rules and in_y[m] and not tells(in_x, a):
            return False
        if "back" in rules and "on" in rules and in_y[m] and not in_x[m]:
            return False
    return all(fits(house, s, one, x, y) for one, other in house[1] if other == hand)


def is_bad(house, s, x):
    truths = dict(zip(atoms(s), x))
    return any(
        m[0] == "must" and "self" in dict(house[0])[m[1]] and truths[m] and not tells(truths, m[2])
        for m in atoms(s))


def goes(house, s, x, left):
    """Whether a sort GOES in a later round, by [43] word by word."""
    truths = dict(zip(atoms(s), x))
    for m in atoms(s):
        if m[0] != "must" or truths[m]:
            continue
        found = False
        for y in left:
            in_y = dict(zip(atoms(s), y))
            wanted = not tells(in_y, m[2]) and ("ends" not in dict(house[0])[m[1]] or in_y[m])
            found = found or (wanted and fits(house, s, m[1], x, y))
        if not found:
            return True
    return any("step" in rules and not any(fits(house, s, h, x, y) for y in left) for h, rules in house[0])


def rounds(house, s):
    left = [x for x in all_sorts(s) if not is_bad(house, s, x)]
    found = [tuple(x for x in all_sorts(s) if is_bad(house, s, x))]
    while True:
        going = [x for x in left if goes(house, s, x, left)]
        if not going:
            return tuple(found), tuple(left)
        found.append(tuple(going))
        left = [x for x in left if x not in going]


def has_rule(web, hand, word):
    found = steps(web, hand)
    worlds = range(web[0])
    if word == "step":
        return all(any((x, y) in found for y in worlds) for x in worlds)
    if word == "self":
        return all((x, x) in found for x in worlds)
    if word == "back":
        return all((y, x) in found for x, y in found)
    if word == "on":
        return all((x, z) in found for x, y in found for v, z in found if v == y)
    if word == "round":
        return all((y, z) in found for x, y in found for v, z in found if v == x)
    led = set(found)
    while True:
        more = led | {(x, z) for x, y in led for v, z in found if v == y}
        if more == led:
            return all((x, x) not in led for x in worlds)
        led = more


def is_of(house, web):
    if any(hand not in dict(house[0]) for hand, pairs in web[1]):
        return False
    if any(not has_rule(web, hand, word) for hand, rules in house[0] for word in rules):
        return False
    return all(steps(web, other) <= steps(web, one) for one, other in house[1])


def is_web(web):
    """Whether a thing is a WEB, by [5]."""
    def rise(things):
        return isinstance(things, tuple) and all(x < y for x, y in zip(things, things[1:]))

    def is_world(x):
        return isinstance(x, int) and not isinstance(x, bool) and 0 <= x < web[0]

    if not isinstance(web, tuple) or len(web) != 3 or isinstance(web[0], bool) or web[0] < 1:
        return False
    if not rise(web[1]) or not rise(web[2]):
        return False
    if len(dict(web[1])) != len(web[1]) or len(dict(web[2])) != len(web[2]):
        return False
    for hand, pairs in web[1]:
        if not rise(pairs) or not pairs or not all(is_world(x) and is_world(y) for x, y in pairs):
            return False
    return all(rise(worlds) and worlds and all(map(is_world, worlds)) for word, worlds in web[2])


def reached(web, world):
    found = {world}
    while True:
        more = found | {y for hand, pairs in web[1] for x, y in pairs if x in found}
        if more == found:
            return sorted(found)
        found = more


def classes(web):
    """The rounds of classes by [32], each as a list of lists of worlds."""
    def grouped(mark):
        groups = {}
        for w in range(web[0]):
            groups.setdefault(mark(w), []).append(w)
        return sorted(groups.values())

    def numbers(groups):
        return tuple(next(k for k, g in enumerate(groups) if w in g) for w in range(web[0]))

    found = [numbers(grouped(lambda w: frozenset(word for word, places in web[2] if w in places)))]
    while True:
        now = found[-1]
        finer = numbers(grouped(lambda w: (now[w], frozenset(
            (hand, now[y]) for hand, pairs in web[1] for x, y in pairs if x == w))))
        if finer == now:
            return tuple(found)
        found.append(finer)


LET_RULES = tuple(
    rules for many in range(6)
    for rules in itertools.combinations(("back", "on", "round", "self", "step"), many)
    if "round" not in rules or "on" in rules
) + (("ends", "on"),)


def let_bridge(one_rules, other_rules):
    return "ends" not in one_rules + other_rules and set(other_rules) - {"step"} <= set(one_rules)


def houses_of_two():
    """All LET HOUSES of the HANDS h and k: without a bridge, or with one."""
    for h, k in itertools.product(LET_RULES, repeat=2):
        yield ((("h", h), ("k", k)), ())
        if let_bridge(h, k):
            yield ((("h", h), ("k", k)), (("h", "k"),))
        if let_bridge(k, h):
            yield ((("h", h), ("k", k)), (("k", "h"),))


def house_of(rules, hand="h"):
    return (((hand, rules),), ())


def some_saying(chance, depth, hands=("h", "k"), words=("a", "b"), with_told=False):
    kinds = ["letter", "letter", "not", "and", "or", "so", "must", "may", "must"]
    if with_told:
        kinds += ["told", "told"]
    kind = chance.choice(kinds) if depth > 0 else "letter"
    if kind == "letter":
        return ("letter", chance.choice(words))

    def next_one():
        return some_saying(chance, depth - 1, hands, words, with_told)
    if kind == "not":
        return no(next_one())
    if kind in ("and", "or"):
        return (kind, tuple(next_one() for k in range(chance.choice((0, 1, 2, 2, 3)))))
    if kind in ("must", "may"):
        return (kind, chance.choice(hands), next_one())
    return (kind, next_one(), next_one())


def some_sayings(seed, many, most_atoms=4, **more):
    """So many sayings of few atoms, always the same ones for a seed."""
    chance = random.Random(seed)
    found = []
    while len(found) < many:
        s = some_saying(chance, 4, **more)
        if more.get("with_told") or len(atoms(s)) <= most_atoms:
            found.append(s)
    return found


def some_web(chance, many, hands=("h", "k"), words=("a", "b")):
    found = []
    for hand in hands:
        pairs = tuple(p for p in itertools.product(range(many), repeat=2) if chance.random() < 0.3)
        if pairs:
            found.append((hand, pairs))
    letters = []
    for word in words:
        places = tuple(w for w in range(many) if chance.random() < 0.5)
        if places:
            letters.append((word, places))
    return (many, tuple(found), tuple(letters))


def some_webs(seed, many, most=6):
    chance = random.Random(seed)
    return [some_web(chance, chance.randrange(1, most + 1)) for k in range(many)]


def subsets(things):
    things = list(things)
    for many in range(len(things) + 1):
        yield from itertools.combinations(things, many)


def webs_of(house, many, words):
    """All WEBS OF a HOUSE of so many worlds."""
    pairs = list(itertools.product(range(many), repeat=2))
    hands = [hand for hand, rules in house[0]]
    step_choices = []
    for chosen in itertools.product(list(subsets(pairs)), repeat=len(hands)):
        web = (many, tuple((h, p) for h, p in zip(hands, chosen) if p), ())
        if is_of(house, web):
            step_choices.append(web[1])
    for chosen in itertools.product(list(subsets(range(many))), repeat=len(words)):
        letters = tuple((w, p) for w, p in zip(words, chosen) if p)
        for found in step_choices:
            yield (many, found, letters)
