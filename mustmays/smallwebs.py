"""All small WEBS OF a HOUSE, gone through for the first one AGAINST a SAYING."""

from mustmays.holding import holding_mask
from mustmays.rulelacks import rule_lack
from mustmays.sayingparts import letters_of
from mustmays.truthtables import bits_of, first_bit
from mustmays.webchecker import bridge_lack


def first_against(house, saying, *, worlds=2):
    """The first pair (web, world) AGAINST a SAYING of at most so many WORLDS; None where there is none."""
    words = letters_of(saying)
    for many in range(1, worlds + 1):
        letterings = all_letterings(words, many)
        for steps in all_steps(house, many):
            for letters in letterings:
                web = (many, steps, letters)
                against = ((1 << many) - 1) ^ holding_mask(web, saying)
                if against != 0:
                    return (web, first_bit(against))
    return None


def all_letterings(words, many):
    """All letters tuples of some WORDS that a WEB of so many WORLDS can have, rising."""
    choices = []
    for word in words:
        choices.append([()] + [((word, worlds),) for worlds in all_some(list(range(many)))])
    return sorted(one_of_each(choices))


def all_steps(house, many):
    """All steps tuples that a WEB OF the HOUSE of so many WORLDS can have, rising."""
    choices = [steps_of_hand(hand, rules, many) for hand, rules in house[0]]
    return sorted([steps for steps in one_of_each(choices) if are_bridged(house, (many, steps, ()))])


def steps_of_hand(hand, rules, many):
    """All steps tuples of one HAND with its RULES."""
    pairs = [(x, y) for x in range(many) for y in range(many)]
    choices = [()] + [((hand, some),) for some in all_some(pairs)]
    return [steps for steps in choices if rule_lack((many, steps, ()), hand, rules) is None]


def are_bridged(house, web):
    """Whether a WEB has all STEPS for which the bridges of the HOUSE ask."""
    return all([bridge_lack(web, one, other) is None for one, other in house[1]])


def all_some(things):
    """All tuples of one or more of some things, in their order."""
    return [tuple([things[at] for at in bits_of(mask)]) for mask in range(1, 1 << len(things))]


def one_of_each(choices):
    """All tuples that have one tuple of each choice, one behind the other."""
    told = [()]
    for some in choices:
        told = [(*ahead, *one) for ahead in told for one in some]
    return told
