"""RULES that a HOUSE makes, and which HOUSES are BENEATH others."""

from mustmays.fitting import check_hands, rules_of
from mustmays.rulekinds import bridges_led

# Each RULE behind those that make it, all together.
MAKINGS = (
    (("self",), "step"),
    (("back", "on"), "round"),
    (("step", "back", "on"), "self"),
    (("self", "round"), "back"),
)


def made_rules(house, hand):
    """RULES MADE by a HOUSE for a HAND, rising; NoHand."""
    check_hands(house, (hand,))
    made = list(rules_of(house, hand))
    if any(["step" in made_rules(house, other) for one, other in house[1] if one == hand]):
        made.append("step")
    many = 0
    while many < len(made):
        many = len(made)
        for makers, word in MAKINGS:
            if word not in made and all([maker in made for maker in makers]):
                made.append(word)
    return tuple(sorted(set(made)))


def is_beneath(one, other):
    """Whether one HOUSE is BENEATH the other."""
    return beneath_fault(one, other) is None


def beneath_fault(one, other):
    """The word and the HAND by which one HOUSE isn't BENEATH the other; None where it is."""
    for hand, rules in one[0]:
        if rules_of(other, hand) is None:
            return ("hand", hand)
        made = made_rules(other, hand)
        for word in rules:
            if word not in made:
                return (word, hand)
    bridge = unled_bridge(one, other)
    if bridge is not None:
        return ("bridge", bridge[0])
    return None


def unled_bridge(one, other):
    """The first bridge of one HOUSE from whose one to whose other none lead in the other HOUSE; None where all do."""
    for ahead, behind in one[1]:
        if bridges_led(other, ahead, behind) is None:
            return (ahead, behind)
    return None
