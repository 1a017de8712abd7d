"""A look at any thing as a PARTING ROW."""

from mustmays.atomkinds import core_of, told_by
from mustmays.errors import NoPaper
from mustmays.sayingkinds import is_saying
from mustmays.tabling import outer_atoms
from mustmays.webkinds import is_pair


def lets_parting_row(sayings, saying, thing):
    """True of a PARTING ROW of some PLAIN SAYINGS and one, else NoPaper."""
    fault = row_fault(sayings, saying, thing)
    if fault is not None:
        raise NoPaper(fault[0], fault[1])
    return True


def row_fault(sayings, saying, thing):
    """The word and the place by which a thing is no PARTING ROW; None where it is one."""
    if not is_row_kind(thing):
        return ("shape", -1)
    atoms = outer_atoms([*sayings, saying])
    if len(thing) != len(atoms):
        return ("atoms", -1)
    for k, atom in enumerate(atoms):
        if thing[k][0] != atom:
            return ("atom", k)
    truths = [truth for atom, truth in thing]
    for k, one in enumerate(sayings):
        if not told_by(atoms, truths, core_of(one)):
            return ("false", k)
    if told_by(atoms, truths, core_of(saying)):
        return ("true", -1)
    return None


def is_row_kind(thing):
    """Whether any thing is a tuple of pairs of a SAYING and a truth."""
    if not isinstance(thing, tuple):
        return False
    return all([is_pair(pair) and is_saying(pair[0]) and isinstance(pair[1], bool) for pair in thing])
