"""SORTS of a PLAIN SAYING: all of them, what they tell, and that of a WORLD."""

from mustmays.atomkinds import atoms_of, core_of, told_by
from mustmays.holding import check_world, holds_at
from mustmays.truthtables import whole_table


def sorts_of(saying):
    """All SORTS of a SAYING, a rising tuple."""
    table = whole_table(atoms_of(saying))
    return tuple([table.truths_in(at) for at in range(table.many)])


def is_sort(saying, thing):
    """Whether any thing is a SORT of a SAYING."""
    if not isinstance(thing, tuple) or len(thing) != len(atoms_of(saying)):
        return False
    return all([isinstance(truth, bool) for truth in thing])


def part_told(saying, sort, part):
    """Whether a SORT of a SAYING tells a part of its ATOMS true."""
    return told_by(atoms_of(saying), sort, core_of(part))


def sort_at(web, saying, world):
    """The SORT of a SAYING that its ATOMS have at a WORLD; NoWorld where there is none such."""
    # Looked at first: a SAYING may have no ATOM that would be asked there.
    check_world(web, world)
    return tuple([holds_at(web, world, atom) for atom in atoms_of(saying)])
