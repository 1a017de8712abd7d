"""Tables of truths, kept in masks: ints whose bit k tells what is so in row k.

One mask tells of all rows at once, so a SAYING is looked at once for all SORTS.
"""

from mustmays.sayingparts import inner_sayings


class TruthTable:
    """Rows of truths of some ATOMS: of each ATOM the mask of the rows that have it true."""

    def __init__(self, atoms, columns, many):
        self.atoms = atoms
        self.columns = columns
        self.many = many
        self.full = (1 << many) - 1

    def where_true(self, core):
        """The mask of the rows that tell a CORE true."""
        if core[0] in ("letter", "must"):
            return self.columns[self.atoms.index(core)]
        masks = [self.where_true(part) for part in inner_sayings(core)]
        return joined_mask(core[0], masks, self.full)

    def where_false(self, core):
        """The mask of the rows that tell a CORE false."""
        return self.full ^ self.where_true(core)

    def truths_in(self, at):
        """The truths in one row, a tuple."""
        return tuple([has_bit(column, at) for column in self.columns])


def whole_table(atoms):
    """The table of all rows of truths of some ATOMS, as the rows rise."""
    many = 1 << len(atoms)
    columns = []
    run = many
    for _ in atoms:
        # The first ATOM turns slowest: as many rows False, then as many True.
        run = run // 2
        columns.append(repeated(((1 << run) - 1) << run, 2 * run, many))
    return TruthTable(atoms, columns, many)


def table_of_rows(atoms, rows):
    """The table of some told rows of truths, a list or a tuple."""
    columns = []
    for k in range(len(atoms)):
        columns.append(mask_of([at for at, row in enumerate(rows) if row[k]]))
    return TruthTable(atoms, columns, len(rows))


def joined_mask(word, masks, full):
    """What "not", "and", "or" or "so" comes to, by the masks of what stands in it."""
    if word == "not":
        return full ^ masks[0]
    if word == "so":
        return (full ^ masks[0]) | masks[1]
    if word == "and":
        joined = full
        for mask in masks:
            joined &= mask
        return joined
    joined = 0
    for mask in masks:
        joined |= mask
    return joined


def has_bit(mask, at):
    """Whether a mask has a place, True or False."""
    return bool(mask >> at & 1)


def first_bit(mask):
    """The least place that a mask has."""
    return (mask & -mask).bit_length() - 1


def bits_of(mask):
    """All places that a mask has, a rising list."""
    places = []
    while mask:
        at = first_bit(mask)
        places.append(at)
        mask ^= 1 << at
    return places


def mask_of(places):
    """The mask that has just these places."""
    mask = 0
    for at in places:
        mask |= 1 << at
    return mask


def repeated(mask, width, many):
    """A mask of so many rows, said over and over up to many rows, a power of two of them."""
    while width < many:
        mask |= mask << width
        width *= 2
    return mask
