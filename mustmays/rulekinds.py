"""Of any thing: is it RULES, a DRAFT, a HOUSE; and of a DRAFT, whether it is a LET HOUSE."""

from mustmays.bounds import LET_WORDS
from mustmays.errors import NoRules
from mustmays.fitting import rules_of
from mustmays.sayingkinds import is_word
from mustmays.webkinds import are_rising, is_pair, is_worded


def is_rules(thing):
    """Whether any thing is RULES, LET or not."""
    return isinstance(thing, tuple) and all([word in LET_WORDS for word in thing]) and are_rising(thing)


def is_draft(thing):
    """Whether any thing is a DRAFT."""
    if not is_pair(thing) or not is_worded(thing[0]) or not thing[0]:
        return False
    return all([is_rules(rules) for hand, rules in thing[0]]) and are_bridges(thing[1])


def is_house(thing):
    """Whether any thing is a HOUSE, be it LET or not."""
    if not is_draft(thing) or not all([rules_fault(rules) is None for hand, rules in thing[0]]):
        return False
    hands = [hand for hand, rules in thing[0]]
    return all([one != other and one in hands and other in hands for one, other in thing[1]])


def lets_draft(draft):
    """True of a DRAFT that is a LET HOUSE, else NoRules."""
    fault = draft_fault(draft)
    if fault is not None:
        raise NoRules(fault[0], fault[1])
    return True


def are_bridges(thing):
    """Whether any thing is a rising tuple of pairs of WORDS."""
    if not isinstance(thing, tuple):
        return False
    return all([is_pair(pair) and is_word(pair[0]) and is_word(pair[1]) for pair in thing]) and are_rising(thing)


def draft_fault(draft):
    """The word and the HAND by which a DRAFT is no LET HOUSE; None where it is one."""
    for hand, rules in draft[0]:
        word = rules_fault(rules)
        if word is not None:
            return (word, hand)
    for one, other in draft[1]:
        fault = bridge_fault(draft, one, other)
        if fault is not None:
            return fault
    for hand, rules in draft[0]:
        if is_in_ring(draft, hand):
            return ("ring", hand)
    return None


def rules_fault(rules):
    """The word by which RULES aren't LET; None where they are."""
    if "round" in rules and "on" not in rules:
        return "round"
    if "ends" in rules and rules != ("ends", "on"):
        return "ends"
    return None


def bridge_fault(draft, one, other):
    """The word and the HAND by which a bridge can't be so; None where it can."""
    for hand in (one, other):
        if rules_of(draft, hand) is None:
            return ("lacks", hand)
    if one == other:
        return ("same", one)
    for hand in (one, other):
        if "ends" in rules_of(draft, hand):
            return ("ends", hand)
    wanted = [word for word in rules_of(draft, other) if word != "step"]
    if not all([word in rules_of(draft, one) for word in wanted]):
        return ("rules", one)
    return None


def is_in_ring(draft, hand):
    """Whether a row of bridges leads from a HAND to itself."""
    return any([bridges_led(draft, other, hand) is not None for one, other in draft[1] if one == hand])


def bridges_led(house, one, other):
    """Bridges that lead one behind the other from one HAND to another, () to itself; None where none do."""
    ways = {one: ()}
    waiting = [one]
    while waiting:
        now = waiting.pop()
        for ahead, behind in house[1]:
            if ahead == now and behind not in ways:
                ways[behind] = (*ways[now], (ahead, behind))
                waiting.append(behind)
    return ways.get(other)
