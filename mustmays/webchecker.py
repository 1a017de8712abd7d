"""A look at any thing as a WEB OF a HOUSE."""

from mustmays.errors import NoPaper
from mustmays.fitting import rules_of
from mustmays.holding import listed
from mustmays.rulelacks import rule_lack
from mustmays.webkinds import is_web


def lets_web(house, thing):
    """True of a WEB OF the HOUSE, else NoPaper."""
    fault = web_fault(house, thing)
    if fault is not None:
        raise NoPaper(fault[0], fault[1])
    return True


def web_fault(house, thing):
    """The word and the place by which a thing is no WEB OF the HOUSE; None where it is one."""
    if not is_web(thing):
        return ("shape", -1)
    for k, (hand, pairs) in enumerate(thing[1]):
        if rules_of(house, hand) is None:
            return ("hand", k)
    for i, (hand, rules) in enumerate(house[0]):
        lack = rule_lack(thing, hand, rules)
        if lack is not None:
            return (lack[0], (i, *lack[1]))
    for b, (one, other) in enumerate(house[1]):
        step = bridge_lack(thing, one, other)
        if step is not None:
            return ("bridge", (b, *step))
    return None


def bridge_lack(web, one, other):
    """The first STEP of the other that is none of the one; None where all are."""
    there = set(listed(web[1], one))
    for step in listed(web[1], other):
        if step not in there:
            return step
    return None
