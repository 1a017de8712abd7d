"""SAYINGS that say of themselves what "self" would make so, and WEBS that have it."""

from mustmays.joininghouses import with_own_steps
from mustmays.sayingparts import inner_sayings, with_inner


def self_away(saying, hand):
    """The SAYING in which what a HAND must, or may, is so besides, or is so at once; within others too."""
    inner = tuple([self_away(part, hand) for part in inner_sayings(saying)])
    turned = with_inner(saying, inner)
    if saying[0] == "must" and saying[1] == hand:
        return ("and", (turned, inner[0]))
    if saying[0] == "may" and saying[1] == hand:
        return ("or", (turned, inner[0]))
    return turned


def web_with_self(web, hand):
    """The WEB with a STEP of the HAND from each WORLD to itself, too."""
    return with_own_steps(web, [hand])
