"""The rounds in which SORTS of a SAYING GO, by the RULES and bridges of a HOUSE."""

from mustmays.atomkinds import atoms_of, core_of
from mustmays.fitting import bad_ones, check_hands, fitting_masks, must_masks, rules_of
from mustmays.sayingparts import hands_of
from mustmays.truthtables import bits_of, has_bit, whole_table


def down_rounds(house, saying):
    """The rounds, each the SORTS that GO in it, and the SORTS that are LEFT; NoHand."""
    gone = GoneSorts(house, saying)
    told = []
    for going in gone.rounds:
        told.append(tuple([gone.table.truths_in(at) for at, why in going]))
    return (tuple(told), tuple([gone.table.truths_in(at) for at in bits_of(gone.left)]))


class GoneSorts:
    """How the SORTS of a SAYING GO: each round a rising list of pairs, a SORT's number and why it GOES.

    left is the mask of those that are LEFT, fits for each HAND of the HOUSE and each SORT the mask of
    those that FIT it.
    """

    def __init__(self, house, saying):
        check_hands(house, hands_of(saying))
        self.core = core_of(saying)
        self.table = whole_table(atoms_of(saying))
        self.hand_rules = house[0]
        self.fits = {hand: fitting_masks(house, self.table, hand) for hand, rules in house[0]}
        self.wants = all_wants(house, self.table)
        self.left = self.table.full
        self.rounds = []
        self.let_go(bad_ones(house, self.table))
        going = self.next_ones()
        while going:
            self.let_go(going)
            going = self.next_ones()

    def let_go(self, going):
        """Take a round's SORTS from those that are LEFT."""
        self.rounds.append(going)
        for at, why in going:
            self.left ^= 1 << at

    def next_ones(self):
        """The SORTS that GO in the next round, with why."""
        whys = [(at, self.why_it_goes(at)) for at in bits_of(self.left)]
        return [(at, why) for at, why in whys if why is not None]

    def why_it_goes(self, at):
        """The first want that none LEFT meets for a SORT, None where all are met."""
        for why, hand, asking, wanted in self.wants:
            if has_bit(asking, at) and self.fits[hand][at] & wanted & self.left == 0:
                return why
        return None

    def left_false(self):
        """The mask of the SORTS that are LEFT and tell the SAYING false."""
        return self.left & self.table.where_false(self.core)


def all_wants(house, table):
    """Why SORTS can GO later, in order: (why, hand, asking, wanted).

    Each SORT of asking needs one that FITS it for the HAND among those of wanted.
    """
    wants = []
    for atom, must, body in must_masks(table):
        wanted = table.full ^ body
        if "ends" in rules_of(house, atom[1]):
            wanted &= must
        wants.append((("must", atom), atom[1], table.full ^ must, wanted))
    for hand, rules in house[0]:
        if "step" in rules:
            wants.append((("step", hand), hand, table.full, table.full))
    return wants
