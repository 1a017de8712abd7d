"""A look at any thing as a PAIR PAPER of two WEBS."""

from mustmays.errors import NoPaper
from mustmays.rulelacks import goals_of
from mustmays.webkinds import is_number, is_pair, is_world


def lets_pairs(web, other, thing):
    """How many pairs a PAIR PAPER has, else NoPaper."""
    fault = pairs_fault(web, other, thing)
    if fault is not None:
        raise NoPaper(fault[0], fault[1])
    return len(thing)


def pairs_fault(web, other, thing):
    """The word and the place by which a thing is no PAIR PAPER; None where it is one."""
    if not are_number_pairs(thing):
        return ("shape", -1)
    for k in range(1, len(thing)):
        if not thing[k - 1] < thing[k]:
            return ("rise", k)
    for k, (x, y) in enumerate(thing):
        if not is_world(x, web[0]) or not is_world(y, other[0]):
            return ("world", k)
    for k, (x, y) in enumerate(thing):
        if letters_there(web, x) != letters_there(other, y):
            return ("letter", k)
    return step_fault(web, other, thing)


def are_number_pairs(thing):
    """Whether any thing is a tuple of pairs of NUMBERS."""
    if not isinstance(thing, tuple):
        return False
    return all([is_pair(pair) and is_number(pair[0]) and is_number(pair[1]) for pair in thing])


def letters_there(web, world):
    """The letters that are true at a WORLD, rising."""
    return [word for word, worlds in web[2] if world in worlds]


def step_fault(web, other, paper):
    """The word and the place of the first STEP, from either WORLD of a pair, that the other one hasn't."""
    goals, others = hand_goals(web), hand_goals(other)
    there = {pair: True for pair in paper}
    turned = {(y, x): True for x, y in paper}
    for k, (x, y) in enumerate(paper):
        z = unmet_goal(goals, x, others, y, there)
        if z is not None:
            return ("step", (k, z))
        w = unmet_goal(others, y, goals, x, turned)
        if w is not None:
            return ("other", (k, w))
    return None


def hand_goals(web):
    """For each HAND that has STEPS and each WORLD from which they lead those to which they lead, rising."""
    return {hand: goals_of(pairs) for hand, pairs in web[1]}


def unmet_goal(goals, x, others, y, there):
    """The least WORLD to which some HAND's STEP leads from x, none of it from y to one paired with it; or None."""
    unmet = []
    for hand, by_world in goals.items():
        likes = others.get(hand, {}).get(y, ())
        unmet.extend([z for z in by_world.get(x, ()) if not any([(z, w) in there for w in likes])])
    return min(unmet, default=None)
