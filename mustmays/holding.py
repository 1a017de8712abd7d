"""Where a SAYING HOLDS in a WEB, and the WEB of some WORLDS of another one."""

from mustmays.errors import NoWorld
from mustmays.sayingparts import inner_sayings
from mustmays.truthtables import bits_of, has_bit, joined_mask, mask_of


def holds_at(web, world, saying):
    """Whether a SAYING HOLDS at a WORLD of a WEB; NoWorld of any other NUMBER."""
    check_world(web, world)
    return has_bit(holding_mask(web, saying), world)


def worlds_where(web, saying):
    """All WORLDS of a WEB at which a SAYING HOLDS, a rising tuple."""
    return tuple(bits_of(holding_mask(web, saying)))


def check_world(web, world):
    """Refuse with NoWorld what is no WORLD of the WEB."""
    if isinstance(world, bool) or not 0 <= world < web[0]:
        raise NoWorld(world)


def holding_mask(web, saying):
    """The WORLDS of a WEB at which a SAYING HOLDS, as a mask."""
    word = saying[0]
    if word == "letter":
        return mask_of(listed(web[2], saying[1]))
    if word == "told":
        return told_mask(web, saying[1], saying[2])
    full = (1 << web[0]) - 1
    masks = [holding_mask(web, part) for part in inner_sayings(saying)]
    if word == "may":
        return leading_mask(web, saying[1], masks[0])
    if word == "must":
        return full ^ leading_mask(web, saying[1], full ^ masks[0])
    return joined_mask(word, masks, full)


def leading_mask(web, hand, goals):
    """The WORLDS from which a STEP of the HAND leads to one of the goals, all as masks."""
    leading = 0
    for x, y in listed(web[1], hand):
        if has_bit(goals, y):
            leading |= 1 << x
    return leading


def told_mask(web, told, then):
    """Where ("told", told, then) HOLDS, as a mask: then is looked at in the CUT."""
    where = holding_mask(web, told)
    worlds = bits_of(where)
    nowhere = ((1 << web[0]) - 1) ^ where
    # Where it holds nowhere there is no CUT: a WEB has a WORLD at least.
    if not worlds:
        return nowhere
    cut = web_of_worlds(web, worlds)
    return nowhere | mask_of([worlds[k] for k in bits_of(holding_mask(cut, then))])


def web_of_worlds(web, worlds):
    """The WEB of some WORLDS, rising, called anew, with the STEPS and letters between them, at them."""
    calls = {world: name for name, world in enumerate(worlds)}
    steps = []
    for hand, pairs in web[1]:
        kept = [(calls[x], calls[y]) for x, y in pairs if x in calls and y in calls]
        if kept:
            steps.append((hand, tuple(kept)))
    letters = []
    for word, places in web[2]:
        true_at = [calls[world] for world in places if world in calls]
        if true_at:
            letters.append((word, tuple(true_at)))
    return (len(worlds), tuple(steps), tuple(letters))


def listed(pairs, word):
    """What a STEPS or letters tuple has by a word; () where it has none."""
    for name, things in pairs:
        if name == word:
            return things
    return ()
