"""Which SORTS of a SAYING FIT which for a HAND of a HOUSE, and which are BAD."""

from mustmays.atomkinds import atoms_of
from mustmays.errors import NoHand
from mustmays.sayingparts import hands_of
from mustmays.truthtables import bits_of, has_bit, table_of_rows, whole_table


def does_fit(house, saying, hand, one, other):
    """Whether the SORT other FITS the SORT one for a HAND; NoHand where the HOUSE lacks one."""
    check_hands(house, hands_of(saying))
    check_hands(house, (hand,))
    table = table_of_rows(atoms_of(saying), (one, other))
    return has_bit(fitting_masks(house, table, hand)[0], 1)


def bad_sorts(house, saying):
    """All BAD SORTS of a SAYING, a rising tuple; NoHand where the HOUSE lacks one in it."""
    check_hands(house, hands_of(saying))
    table = whole_table(atoms_of(saying))
    return tuple([table.truths_in(at) for at, why in bad_ones(house, table)])


def check_hands(house, hands):
    """Refuse with NoHand the first of some HANDS that is none of the HOUSE's."""
    for hand in hands:
        if rules_of(house, hand) is None:
            raise NoHand(hand)


def rules_of(house, hand):
    """The RULES of a HAND of a HOUSE, None where it isn't there."""
    for name, rules in house[0]:
        if name == hand:
            return rules
    return None


def must_masks(table):
    """Of each ATOM m = ("must", h, a) of a table, as they rise: m, where it is true, where a is."""
    return [
        (atom, column, table.where_true(atom[2]))
        for atom, column in zip(table.atoms, table.columns) if atom[0] == "must"
    ]


def bad_ones(house, table):
    """The BAD rows of a table, rising: pairs of the row's number and why it is, by the first such ATOM."""
    whys = {}
    for atom, must, body in must_masks(table):
        if "self" in rules_of(house, atom[1]):
            for at in bits_of(must & (table.full ^ body)):
                whys.setdefault(at, ("self", atom))
    return [(at, whys[at]) for at in sorted(list(whys))]


def fitting_masks(house, table, hand):
    """For each row of a table the mask of the rows that FIT it for a HAND of the HOUSE."""
    masks = [table.full] * table.many
    for one in hands_behind(house, hand):
        rules = rules_of(house, one)
        musts = [(must, body) for atom, must, body in must_masks(table) if atom[1] == one]
        masks = [mask & fitting_mask(rules, musts, at, table.full) for at, mask in enumerate(masks)]
    return masks


def fitting_mask(rules, musts, at, full):
    """The mask of the rows that FIT the row at a place, by the RULES and "must" ATOMS of one HAND."""
    fitting = full
    for must, body in musts:
        if has_bit(must, at):
            fitting &= body
            if "on" in rules:
                fitting &= must
        elif "round" in rules or ("on" in rules and "back" in rules):
            fitting &= full ^ must
        if "back" in rules and not has_bit(body, at):
            fitting &= full ^ must
    return fitting


def hands_behind(house, hand):
    """The HAND and all HANDS to which bridges lead from it, from other to one."""
    found = []
    waiting = [hand]
    while waiting:
        now = waiting.pop()
        if now not in found:
            found.append(now)
            waiting.extend([one for one, other in house[1] if other == now])
    return found
