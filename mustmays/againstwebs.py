"""The LEFT WEB: the SORTS of a SAYING that are LEFT as WORLDS."""

from mustmays.fitting import must_masks
from mustmays.rounds import GoneSorts
from mustmays.truthtables import bits_of, has_bit


def left_web(house, saying):
    """The LEFT WEB of a HOUSE and a SAYING; NoHand."""
    return web_left(GoneSorts(house, saying))


def web_left(gone):
    """The WEB of the SORTS that are LEFT, called as they rise."""
    places = bits_of(gone.left)
    calls = {at: world for world, at in enumerate(places)}
    steps = []
    for hand, rules in gone.hand_rules:
        goals = goals_for(gone, hand, rules)
        pairs = [(calls[x], calls[y]) for x in places for y in bits_of(goals[x] & gone.left)]
        if pairs:
            steps.append((hand, tuple(pairs)))
    letters = []
    for atom, column in zip(gone.table.atoms, gone.table.columns):
        worlds = [calls[at] for at in bits_of(column & gone.left)]
        if atom[0] == "letter" and worlds:
            letters.append((atom[1], tuple(worlds)))
    return (len(places), tuple(steps), tuple(letters))


def goals_for(gone, hand, rules):
    """For each SORT the mask of those to which a STEP of the HAND leads."""
    if "ends" not in rules:
        return gone.fits[hand]
    musts = [must for atom, must, body in must_masks(gone.table) if atom[1] == hand]
    return [fits & newly_true(musts, at) for at, fits in enumerate(gone.fits[hand])]


def newly_true(musts, at):
    """The mask of the SORTS that have some "must" true that the SORT at a place has false."""
    mask = 0
    for must in musts:
        if not has_bit(must, at):
            mask |= must
    return mask
