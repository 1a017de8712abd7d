"""GROWN SAYINGS, the WEBS that GROW and where they COME TRUE in them; LED to what must be."""

from mustmays.holding import check_world, holding_mask, leading_mask, listed, worlds_where
from mustmays.rulelacks import rule_lack
from mustmays.sayingkinds import is_plain_saying
from mustmays.sayingparts import hands_of, inner_sayings, with_inner
from mustmays.truthtables import has_bit, joined_mask


def is_grown(thing):
    """Whether any thing is a GROWN SAYING."""
    return is_plain_saying(thing) and hands_of(thing) == ()


def does_grow(web, hand):
    """Whether a WEB GROWS by a HAND."""
    if rule_lack(web, hand, ("on", "self")) is not None:
        return False
    pairs = listed(web[1], hand)
    return all([y in worlds for word, worlds in web[2] for x, y in pairs if x in worlds])


def comes_true(web, hand, world, saying):
    """Whether a GROWN SAYING COMES TRUE at a WORLD by a HAND; NoWorld."""
    check_world(web, world)
    return has_bit(coming_mask(web, hand, saying), world)


def grown_led(saying, hand):
    """The GROWN SAYING LED for a HAND."""
    if saying[0] == "letter":
        return ("must", hand, saying)
    led = with_inner(saying, tuple([grown_led(part, hand) for part in inner_sayings(saying)]))
    if saying[0] in ("not", "so"):
        return ("must", hand, led)
    return led


def grown_web(web, hand):
    """The WEB in which each letter is true just where the HAND must have it so."""
    letters = []
    for word, worlds in web[2]:
        grown = worlds_where(web, ("must", hand, ("letter", word)))
        if grown:
            letters.append((word, grown))
    return (web[0], web[1], tuple(letters))


def coming_mask(web, hand, saying):
    """The WORLDS of a WEB at which a GROWN SAYING COMES TRUE, as a mask."""
    word = saying[0]
    if word == "letter":
        return holding_mask(web, saying)
    full = (1 << web[0]) - 1
    masks = [coming_mask(web, hand, part) for part in inner_sayings(saying)]
    if word in ("and", "or"):
        return joined_mask(word, masks, full)
    # "not" and "so" are looked at where STEPS lead, not here.
    failing = full ^ joined_mask(word, masks, full)
    return full ^ leading_mask(web, hand, failing)
