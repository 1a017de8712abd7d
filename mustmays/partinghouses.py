"""HOUSES parted: what is shown in one, with a WEB OF the other in which it doesn't hold."""

from mustmays.answering import answered
from mustmays.answerjudge import against_fault
from mustmays.beneath import beneath_fault, unled_bridge
from mustmays.errors import NoPaper
from mustmays.ruleschemes import bridge_scheme, scheme_of
from mustmays.showjudge import lets_showing
from mustmays.webkinds import is_number, is_web

LETTER = ("letter", "a")


def parting_of(one, other):
    """A PARTING PAPER of a HOUSE and another one that has its HANDS; None where it is BENEATH that."""
    fault = beneath_fault(one, other)
    if fault is None:
        return None
    row = parting_scheme(one, other, fault)
    against = answered(other, row[0])
    return ((row,), against[1], against[2])


def lets_parting(one, other, thing):
    """The SAYING of a PARTING PAPER of a HOUSE and another one, else NoPaper."""
    if not is_parting_kind(thing):
        raise NoPaper("shape", -1)
    saying = lets_showing(one, thing[0])
    word = against_fault(other, saying, thing[1], thing[2])
    if word is not None:
        raise NoPaper(word, -1)
    return saying


def parting_scheme(one, other, fault):
    """The row of the first SCHEME in the one HOUSE that the other doesn't make, by why it isn't BENEATH that."""
    word, hand = fault
    if word == "bridge":
        ahead, behind = unled_bridge(one, other)
        return (bridge_scheme(one, ahead, behind, LETTER), (word, ahead, behind, LETTER))
    return (scheme_of(one, hand, word, LETTER), ("rule", word, hand, LETTER))


def is_parting_kind(thing):
    """Whether any thing is a triple of a thing, a WEB and a NUMBER."""
    return isinstance(thing, tuple) and len(thing) == 3 and is_web(thing[1]) and is_number(thing[2])
