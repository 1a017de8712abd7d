"""SCHEMES: the SAYINGS that RULES and bridges of a HOUSE make so, whatever is put in them."""

from mustmays.fitting import rules_of


def scheme_of(house, hand, word, saying):
    """The SCHEME of a HAND by one of its RULES and a SAYING; None where there is no such HAND or RULE."""
    rules = rules_of(house, hand)
    if rules is None or word not in rules:
        return None
    return rule_said(hand, word, saying)


def bridge_scheme(house, one, other, saying):
    """The SCHEME of a bridge of the HOUSE and a SAYING; None where there is no such bridge."""
    if (one, other) not in house[1]:
        return None
    return bridge_said(one, other, saying)


def rule_said(hand, word, saying):
    """What a RULE of a HAND makes so of a SAYING, in whichever HOUSE."""
    must = ("must", hand, saying)
    if word == "step":
        return ("not", ("must", hand, ("or", ())))
    if word == "self":
        return ("so", must, saying)
    if word == "on":
        return ("so", must, ("must", hand, must))
    if word == "back":
        return ("so", ("not", saying), ("must", hand, ("not", must)))
    if word == "round":
        return ("so", ("not", must), ("must", hand, ("not", must)))
    return ("so", ("must", hand, ("so", must, saying)), must)


def bridge_said(one, other, saying):
    """What a bridge makes so of a SAYING, in whichever HOUSE."""
    return ("so", ("must", one, saying), ("must", other, saying))
