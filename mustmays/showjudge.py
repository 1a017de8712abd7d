"""A look at any thing as a SHOWING: row by row, by a HOUSE and a LIBRARY."""

from mustmays.atomkinds import core_of
from mustmays.errors import NoPaper
from mustmays.fitting import rules_of
from mustmays.ruleschemes import bridge_scheme, scheme_of
from mustmays.sayingkinds import is_plain_saying, is_word
from mustmays.sayingparts import hands_of, rising
from mustmays.tabling import outer_parts, parting_mask
from mustmays.truthtables import whole_table
from mustmays.webkinds import are_rising, is_number, is_pair

MOST_OUTER = 16


def lets_showing(house, thing, *, library=()):
    """The SAYING that any thing SHOWS, or NoPaper."""
    fault = showing_fault(house, thing, library)
    if fault is not None:
        raise NoPaper(fault[0], fault[1])
    return thing[-1][0]


def showing_fault(house, thing, library):
    """The word and the place by which a thing is no SHOWING; None where it is one."""
    if not is_showing(thing):
        return ("shape", -1)
    judge = RowJudge(house, library, thing)
    for k in range(len(thing)):
        word = judge.fault(k)
        if word is not None:
            return (word, k)
    return None


def is_showing(thing):
    """Whether any thing is a SHOWING by kind: a tuple of one or more pairs of a PLAIN SAYING and a why."""
    if not isinstance(thing, tuple) or not thing:
        return False
    return all([is_pair(row) and is_plain_saying(row[0]) and is_why(row[1]) for row in thing])


def is_why(thing):
    """Whether any thing is a why by kind."""
    if not isinstance(thing, tuple) or len(thing) not in (2, 4):
        return False
    word = thing[0]
    if word == "by":
        return len(thing) == 2 and is_word(thing[1])
    if word == "from":
        return len(thing) == 2 and isinstance(thing[1], tuple) and all([is_number(row) for row in thing[1]])
    if len(thing) == 2:
        return False
    if word == "must":
        return is_number(thing[1]) and is_word(thing[2]) and is_number(thing[3])
    if word == "rule":
        return isinstance(thing[1], str) and is_word(thing[2]) and is_plain_saying(thing[3])
    return word == "bridge" and is_word(thing[1]) and is_word(thing[2]) and is_plain_saying(thing[3])


def musted(saying, hand, n):
    """A SAYING MUSTED n deep by a HAND; None where there is none so deep."""
    if n < 0:
        return None
    ahead = []
    last = saying
    while len(ahead) < n:
        if last[0] != "so":
            return None
        ahead.append(("must", hand, last[1]))
        last = last[2]
    told = ("must", hand, last)
    for one in ahead[::-1]:
        told = ("so", one, told)
    return told


class RowJudge:
    """Looks at the rows of a SHOWING by kind, by a HOUSE (its home) and a LIBRARY (its names).

    The COREs and their OUTER ATOMS are kept of all rows: many rows may follow from one.
    """

    def __init__(self, home, names, rows):
        self.home = home
        self.names = names
        self.rows = rows
        self.cores = [core_of(saying) for saying, why in rows]
        self.outer = [rising(outer_parts(core)) for core in self.cores]

    def fault(self, k):
        """The word by which row k isn't right; None where it is."""
        saying, why = self.rows[k]
        if not all([rules_of(self.home, hand) is not None for hand in hands_of(saying)]):
            return "hand"
        if why[0] in ("from", "must") and not self.are_ahead(k, why):
            return "row"
        if not self.is_right(k, saying, why):
            return why[0]
        return None

    def are_ahead(self, k, why):
        """Whether the NUMBERS of rows in a "from" or a "must" are those of rows ahead, and rise."""
        rows = why[1] if why[0] == "from" else why[1:2]
        return all([0 <= row < k for row in rows]) and are_rising(rows)

    def is_right(self, k, saying, why):
        """Whether row k is right by its why."""
        word = why[0]
        if word == "from":
            return self.does_follow(k, why[1])
        if word == "by":
            return (why[1], saying) in self.names
        if word == "must":
            # Its HAND is one of the HOUSE: it stands in the SAYING, which is OF the HOUSE.
            return saying == musted(self.rows[why[1]][0], why[2], why[3])
        if word == "rule":
            return saying == scheme_of(self.home, why[2], why[1], why[3])
        return saying == bridge_scheme(self.home, why[1], why[2], why[3])

    def does_follow(self, k, rows):
        """Whether row k FOLLOWS from some rows, with at most sixteen OUTER ATOMS all together."""
        atoms = list(self.outer[k])
        for row in rows:
            atoms.extend(self.outer[row])
        atoms = rising(atoms)
        if len(atoms) > MOST_OUTER:
            return False
        return parting_mask(whole_table(atoms), [self.cores[row] for row in rows], self.cores[k]) == 0
