"""HOUSES JOINED, and their HANDS alone; WEBS put beside other HANDS, and of some HANDS alone."""

from mustmays.errors import NoRules
from mustmays.fitting import check_hands, rules_of
from mustmays.holding import listed


def joined_house(one, other):
    """The HOUSE of all HANDS and bridges of both; NoRules of a HAND that is in both."""
    for hand, rules in one[0]:
        if rules_of(other, hand) is not None:
            raise NoRules("hand", hand)
    return (tuple(sorted([*one[0], *other[0]])), tuple(sorted([*one[1], *other[1]])))


def house_of_hands(house, hands):
    """The HOUSE of some of a HOUSE's HANDS, with the bridges between them; NoHand."""
    check_hands(house, hands)
    kept = [pair for pair in house[0] if pair[0] in hands]
    return (tuple(kept), tuple([(one, other) for one, other in house[1] if one in hands and other in hands]))


def web_beside(one, other, web):
    """A WEB OF the one HOUSE with what the HANDS of the other ask for: STEPS from each WORLD to itself."""
    # A HAND that has "ends" has all its RULES without STEPS, and no bridges.
    return with_own_steps(web, [hand for hand, rules in other[0] if "ends" not in rules])


def web_of_hands(web, hands):
    """The WEB with the STEPS of some HANDS alone."""
    return (web[0], tuple([pair for pair in web[1] if pair[0] in hands]), web[2])


def with_own_steps(web, hands):
    """The WEB with a STEP of each of some HANDS from each WORLD to itself, too."""
    own = [(world, world) for world in range(web[0])]
    steps = [pair for pair in web[1] if pair[0] not in hands]
    steps.extend([(hand, tuple(sorted(set([*listed(web[1], hand), *own])))) for hand in hands])
    return (web[0], tuple(sorted(steps)), web[2])
