"""Of each SAYING just one of both: a WEB against it, or a DOWN PAPER."""

from mustmays.againstwebs import web_left
from mustmays.atomkinds import atoms_of
from mustmays.bounds import MOST
from mustmays.downpapers import gone_paper
from mustmays.errors import NoMore
from mustmays.fitting import check_hands
from mustmays.leastwebs import least_web
from mustmays.rounds import GoneSorts
from mustmays.sayingparts import hands_of
from mustmays.truthtables import bits_of, first_bit


def decided(house, saying, *, most=MOST):
    """("against", web, world), or ("down", paper); NoHand, or NoMore of more SORTS than most."""
    # Both are looked at ahead of all SORTS: there may be too many to go through.
    check_hands(house, hands_of(saying))
    if 1 << len(atoms_of(saying)) > most:
        raise NoMore(most)
    gone = GoneSorts(house, saying)
    against = against_left(gone)
    if against is None:
        return ("down", gone_paper(gone))
    return against


def against_left(gone):
    """("against", web, world) by a SORT that is LEFT and tells the SAYING false; None where there is none."""
    against = gone.left_false()
    if against == 0:
        return None
    world = bits_of(gone.left).index(first_bit(against))
    web, calls = least_web(web_left(gone), start=world)
    return ("against", web, calls[world])
