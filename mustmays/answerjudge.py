"""A look at any thing as what a SAYING is ANSWERED."""

from mustmays.cutting import reached_web
from mustmays.errors import NoPaper
from mustmays.holding import holds_at
from mustmays.showjudge import lets_showing
from mustmays.webchecker import web_fault
from mustmays.webkinds import is_number, is_pair, is_web, is_world


def lets_answered(house, saying, thing):
    """True of "shown", False of "against", else NoPaper."""
    if is_pair(thing) and thing[0] == "shown":
        if lets_showing(house, thing[1]) != saying:
            raise NoPaper("other", -1)
        return True
    if not is_against_kind(thing):
        raise NoPaper("shape", -1)
    word = against_fault(house, saying, thing[1], thing[2])
    if word is not None:
        raise NoPaper(word, -1)
    return False


def is_against_kind(thing):
    """Whether any thing is a triple of "against", a WEB and a NUMBER."""
    if not isinstance(thing, tuple) or len(thing) != 3 or thing[0] != "against":
        return False
    return is_web(thing[1]) and is_number(thing[2])


def against_fault(house, saying, web, world):
    """The word by which a WEB and a NUMBER aren't against a PLAIN SAYING; None where they are."""
    if web_fault(house, web) is not None:
        return "house"
    if not is_world(world, web[0]):
        return "world"
    # Only what is REACHED counts: a WEB that is looked at may have very many WORLDS besides.
    reached, call = reached_web(web, world)
    if holds_at(reached, call, saying):
        return "holds"
    return None
