"""The CORE of a PLAIN SAYING, its ATOMS, and what a SORT tells of it."""

from mustmays.sayingparts import inner_sayings, parts_of_saying, with_inner
from mustmays.truthtables import table_of_rows


def core_of(saying):
    """The SAYING in which each "may" is read as what must not be so not."""
    inner = tuple([core_of(part) for part in inner_sayings(saying)])
    if saying[0] == "may":
        return ("not", ("must", saying[1], ("not", inner[0])))
    return with_inner(saying, inner)


def atoms_of(saying):
    """The letters and "must" tuples in the CORE of a SAYING, a rising tuple."""
    return tuple([part for part in parts_of_saying(core_of(saying)) if part[0] in ("letter", "must")])


def sort_tells(saying, sort):
    """Whether a SORT of a SAYING tells that it is true."""
    return told_by(atoms_of(saying), sort, core_of(saying))


def told_by(atoms, truths, core):
    """What a CORE comes to by the truths of some ATOMS, True or False."""
    return table_of_rows(atoms, [truths]).where_true(core) == 1
