"""What FOLLOWS from SAYINGS by truths of their OUTER ATOMS alone."""

from mustmays.atomkinds import core_of
from mustmays.sayingparts import inner_sayings, rising
from mustmays.truthtables import first_bit, whole_table


def outer_atoms(sayings):
    """The ATOMS of some SAYINGS that stand in a CORE of them within no "must", a rising tuple."""
    found = []
    for saying in sayings:
        found.extend(outer_parts(core_of(saying)))
    return rising(found)


def outer_parts(core):
    """The OUTER ATOMS of one CORE, each as often as it stands there."""
    found = []
    waiting = [core]
    while waiting:
        part = waiting.pop()
        if part[0] in ("letter", "must"):
            found.append(part)
        else:
            waiting.extend(inner_sayings(part))
    return found


def parting_row(sayings, saying):
    """None where a SAYING FOLLOWS from some; else the first ROW in which they all are true, it isn't."""
    atoms = outer_atoms([*sayings, saying])
    table = whole_table(atoms)
    parting = parting_mask(table, [core_of(one) for one in sayings], core_of(saying))
    if parting == 0:
        return None
    return tuple(zip(atoms, table.truths_in(first_bit(parting))))


def parting_mask(table, cores, core):
    """The mask of the rows of a table in which all of some COREs are true, one isn't."""
    parting = table.where_false(core)
    for one in cores:
        if parting == 0:
            break
        parting &= table.where_true(one)
    return parting
