"""Looks at any thing as a DOWN PAPER, as a pair AGAINST a SAYING, and as either."""

from mustmays.answerjudge import against_fault
from mustmays.atomkinds import atoms_of, core_of
from mustmays.errors import NoPaper
from mustmays.fitting import check_hands, fitting_masks, rules_of
from mustmays.sayingkinds import is_saying, is_word
from mustmays.sayingparts import hands_of
from mustmays.truthtables import first_bit, has_bit, whole_table
from mustmays.webkinds import is_number, is_pair, is_web


def lets_down(house, saying, thing):
    """How many rows a DOWN PAPER has; NoHand, NoPaper."""
    check_hands(house, hands_of(saying))
    fault = down_fault(house, saying, thing)
    if fault is not None:
        raise NoPaper(fault[0], fault[1])
    return len(thing)


def lets_against(house, saying, thing):
    """True of a pair (web, world) AGAINST the SAYING; NoHand, NoPaper."""
    check_hands(house, hands_of(saying))
    if not is_pair(thing) or not is_web(thing[0]) or not is_number(thing[1]):
        raise NoPaper("shape", -1)
    word = against_fault(house, saying, thing[0], thing[1])
    if word is not None:
        raise NoPaper("of" if word == "house" else word, -1)
    return True


def lets_answer(house, saying, thing):
    """As which of both a thing is let by, "against" or "down"; NoHand, NoPaper."""
    check_hands(house, hands_of(saying))
    if isinstance(thing, tuple) and len(thing) == 3 and thing[0] == "against":
        lets_against(house, saying, thing[1:])
        return "against"
    if is_pair(thing) and thing[0] == "down":
        lets_down(house, saying, thing[1])
        return "down"
    raise NoPaper("shape", -1)


def down_fault(house, saying, thing):
    """The word and the place by which a thing is no DOWN PAPER; None where it is one."""
    if not is_down_kind(thing):
        return ("shape", -1)
    judge = DownJudge(house, saying)
    for k, (sort, why) in enumerate(thing):
        word = judge.fault(sort, why)
        if word is not None:
            return (word, k)
    lacking = judge.left & judge.table.where_false(core_of(saying))
    if lacking != 0:
        return ("lacks", first_bit(lacking))
    return None


def is_down_kind(thing):
    """Whether any thing is a tuple of pairs of a tuple of truths and such a why by kind."""
    if not isinstance(thing, tuple):
        return False
    return all([is_pair(row) and are_truths(row[0]) and is_down_why(row[1]) for row in thing])


def are_truths(thing):
    """Whether any thing is a tuple of truths."""
    return isinstance(thing, tuple) and all([isinstance(truth, bool) for truth in thing])


def is_down_why(thing):
    """Whether any thing is a why of a DOWN PAPER's row by kind."""
    if not is_pair(thing):
        return False
    if thing[0] == "step":
        return is_word(thing[1])
    return thing[0] in ("self", "must") and is_saying(thing[1])


class DownJudge:
    """Looks at the rows of a DOWN PAPER by kind, one behind the other; left is the mask of the SORTS in none so far."""

    def __init__(self, house, saying):
        self.home = house
        self.table = whole_table(atoms_of(saying))
        self.fits = {hand: fitting_masks(house, self.table, hand) for hand, rules in house[0]}
        self.left = self.table.full

    def fault(self, sort, why):
        """The word by which the next row isn't right; None where it is, and its SORT GOES."""
        if len(sort) != len(self.table.atoms):
            return "sort"
        at = row_number(sort)
        if not has_bit(self.left, at):
            return "twice"
        if not self.is_let_why(why):
            return "why"
        if not self.does_go(at, why):
            return "stays"
        self.left ^= 1 << at
        return None

    def is_let_why(self, why):
        """Whether a why tells a "must" ATOM, or a HAND, that has the RULE it takes."""
        word, thing = why
        if word == "step":
            rules = rules_of(self.home, thing)
            return rules is not None and word in rules
        if thing[0] != "must" or thing not in self.table.atoms:
            return False
        return word == "must" or word in rules_of(self.home, thing[1])

    def does_go(self, at, why):
        """Whether the SORT at a place GOES by those ahead, by a why."""
        word, thing = why
        if word == "step":
            return self.fits[thing][at] & self.left == 0
        must = self.table.where_true(thing)
        false = self.table.where_false(thing[2])
        if word == "self":
            return has_bit(must & false, at)
        if "ends" in rules_of(self.home, thing[1]):
            false &= must
        return not has_bit(must, at) and self.fits[thing[1]][at] & false & self.left == 0


def row_number(truths):
    """The number of a row of truths among all of that length, as they rise."""
    number = 0
    for truth in truths:
        number = 2 * number + (1 if truth else 0)
    return number
