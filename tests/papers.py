"""What [46] and [47] ask of answers, looked at by the document's own words."""

from tests import plainly
from tests.plainly import all_sorts, classes, fits, holds, is_bad, is_of, is_web, reached, tells


def is_down_paper(house, s, paper):
    """Whether a thing is a DOWN PAPER: unlike SORTS, each of which GOES by those ahead, why is so."""
    names = plainly.atoms(s)
    ahead = []
    for sort, why in paper:
        if sort in ahead or sort not in all_sorts(s) or not why_is_so(house, s, sort, why, ahead):
            return False
        ahead.append(sort)
    return all(x in ahead or tells(dict(zip(names, x)), plainly.core(s)) for x in all_sorts(s))


def why_is_so(house, s, sort, why, ahead):
    names = plainly.atoms(s)
    rules = dict(house[0])
    here = dict(zip(names, sort))
    word, thing = why
    if word == "step":
        return "step" in rules[thing] and all(
            y in ahead for y in all_sorts(s) if fits(house, s, thing, sort, y))
    kind, hand, a = thing
    if kind != "must" or thing not in names:
        return False
    if word == "self":
        return "self" in rules[hand] and here[thing] and not tells(here, a)
    if here[thing]:
        return False
    for y in all_sorts(s):
        there = dict(zip(names, y))
        if fits(house, s, hand, sort, y) and y not in ahead and not tells(there, a):
            if not ("ends" in rules[hand] and not there[thing]):
                return False
    return True


def first_why(house, s, sort, ahead):
    """The first that is so of "self", of ATOMS as they rise, of "must", likewise, of "step", of HANDS."""
    musts = [m for m in plainly.atoms(s) if m[0] == "must"]
    whys = [("self", m) for m in musts] + [("must", m) for m in musts]
    whys += [("step", hand) for hand, rules in house[0]]
    return next(why for why in whys if why_is_so(house, s, sort, why, ahead))


def plain_paper(house, s):
    """The DOWN PAPER that [47] tells."""
    rounds, left = plainly.rounds(house, s)
    names = plainly.atoms(s)
    if not all(tells(dict(zip(names, x)), plainly.core(s)) for x in left):
        return None
    rows, ahead = [], []
    for going in rounds:
        rows += [(x, first_why(house, s, x, ahead)) for x in going]
        ahead = ahead + list(going)
    assert all(is_bad(house, s, x) for x in rounds[0])
    return tuple(rows)


def is_against(house, s, web, world):
    """Whether (web, world) is what "against" tells by [46]."""
    if not is_web(web) or not is_of(house, web) or web[0] > 32 or not 0 <= world < web[0]:
        return False
    words = {part[1] for part in plainly.parts(s) if part[0] == "letter"}
    if not {word for word, worlds in web[2]} <= words:
        return False
    if reached(web, world) != list(range(web[0])):
        return False
    return len(set(classes(web)[-1])) == web[0] and not holds(web, world, s)
