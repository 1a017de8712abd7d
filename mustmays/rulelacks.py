"""What the STEPS of a HAND in a WEB LACK of RULES."""

from mustmays.holding import listed
from mustmays.leastwebs import worlds_reached


def rule_lack(web, hand, rules):
    """The first of the RULES that isn't so and the first WORLDS that tell it; None where all are."""
    pairs = listed(web[1], hand)
    for word in rules:
        worlds = first_lack(web[0], pairs, word)
        if worlds is not None:
            return (word, worlds)
    return None


def first_lack(many, pairs, word):
    """The first WORLDS, of so many, at which STEPS lack a RULE; None where they have it."""
    if word == "step":
        return first_missing(many, [x for x, y in pairs])
    if word == "self":
        return first_missing(many, [x for x, y in pairs if x == y])
    if word == "ends":
        return first_in_ring(many, pairs)
    there = set(pairs)
    goals = goals_of(pairs)
    for x, y in pairs:
        for worlds, step in asked_steps(goals, x, y, word):
            if step not in there:
                return worlds
    return None


def first_missing(many, rising_worlds):
    """The first of so many WORLDS that is none of some, as a tuple; None where all are there."""
    # Never all WORLDS are gone through: a WEB that is looked at may have very many.
    least = 0
    for world in rising_worlds:
        if world == least:
            least += 1
    return (least,) if least < many else None


def first_in_ring(many, pairs):
    """The first WORLD from which a row of STEPS leads to itself, as a tuple; None where there is none."""
    web = (many, (("h", pairs),), ())
    for x, y in pairs:
        if x in worlds_reached(web, y):
            return (x,)
    return None


def goals_of(pairs):
    """For each WORLD from which STEPS lead those to which they lead, rising."""
    goals = {}
    for x, y in pairs:
        goals.setdefault(x, []).append(y)
    return goals


def asked_steps(goals, x, y, word):
    """What "back", "on" or "round" asks of a STEP: pairs of the WORLDS that ask and the STEP, rising."""
    if word == "back":
        return [((x, y), (y, x))]
    if word == "on":
        return [((x, y, z), (x, z)) for z in goals.get(y, ())]
    return [((x, y, z), (y, z)) for z in goals[x]]
