"""A BOOK: SHOWINGS kept by names while a HOUSE's HANDS, RULES and bridges come and go."""

from mustmays.answering import answered
from mustmays.bounds import MOST
from mustmays.booktexts import log_lines
from mustmays.errors import LackError, MustError, NoMore, NoName, NoRules, NoStep
from mustmays.fitting import check_hands, rules_of
from mustmays.rulekinds import lets_draft
from mustmays.sayingparts import hands_of
from mustmays.showjudge import lets_showing, showing_fault


class Book:
    """deeds are the rows done so far; states, one more, the HOUSE and the KEPT ones ahead of and behind each.

    KEPT is a tuple of triples (name, SHOWING, SAYING). No state is ever changed: what is refused amid a deed
    leaves all as it was, and a deed is undone by going back to the state ahead of it.
    """

    def __init__(self, house):
        self.first = house
        self.deeds = []
        self.states = [(house, ())]
        self.goings = 0

    def lay(self, name, thing):
        """Keep a SHOWING by a name, the last: what it SHOWS, who FELL, how many were judged; NoPaper."""
        house, kept = self.states[-1]
        # Where none is KEPT by the name none goes, and none hangs on it.
        kept, fell, judged = kept_without(house, kept, name)
        saying = lets_showing(house, thing, library=library_of(kept))
        self.note(("lay", name, thing), house, (*kept, (name, thing, saying)))
        return (saying, fell, judged)

    def drop(self, name):
        """Keep what is KEPT by a name no more: who FELL, how many were judged; NoName."""
        house, kept = self.states[-1]
        if name not in names_of(kept):
            raise NoName(name)
        kept, fell, judged = kept_without(house, kept, name)
        self.note(("drop", name), house, kept)
        return (fell, judged)

    def add_hand(self, hand):
        """Have a HAND more, without RULES: who FELL, how many were judged; NoRules."""
        hands, bridges = self.house()
        if rules_of(self.house(), hand) is not None:
            raise NoRules("there", hand)
        return self.turn(("hand", hand), (risen(hands, (hand, ())), bridges), (hand,))

    def bare(self, hand):
        """Have a HAND no more, nor its bridges: who FELL, how many were judged; NoHand, NoRules."""
        hands, bridges = self.house()
        check_hands(self.house(), (hand,))
        if len(hands) == 1:
            raise NoRules("last", hand)
        left = tuple([pair for pair in hands if pair[0] != hand])
        return self.turn(("bare", hand), (left, tuple([pair for pair in bridges if hand not in pair])), (hand,))

    def put(self, hand, word):
        """Have a RULE of a HAND more: who FELL, how many were judged; NoHand, NoRules."""
        rules = self.rules_here(hand)
        if word in rules:
            raise NoRules("there", hand)
        return self.turn_rules(("put", hand, word), risen(rules, word))

    def take(self, hand, word):
        """Have a RULE of a HAND no more: who FELL, how many were judged; NoHand, NoRules."""
        rules = self.rules_here(hand)
        if word not in rules:
            raise NoRules("none", hand)
        return self.turn_rules(("take", hand, word), tuple([rule for rule in rules if rule != word]))

    def bridge(self, one, other):
        """Have a bridge more: who FELL, how many were judged; NoRules."""
        hands, bridges = self.house()
        if (one, other) in bridges:
            raise NoRules("there", one)
        draft = (hands, risen(bridges, (one, other)))
        lets_draft(draft)
        return self.turn(("bridge", one, other), draft, (one, other))

    def unbridge(self, one, other):
        """Have a bridge no more: who FELL, how many were judged; NoRules."""
        hands, bridges = self.house()
        if (one, other) not in bridges:
            raise NoRules("none", one)
        left = tuple([pair for pair in bridges if pair != (one, other)])
        return self.turn(("unbridge", one, other), (hands, left), (one, other))

    def house(self):
        """The HOUSE."""
        return self.states[-1][0]

    def showing_names(self):
        """The names of KEPT ones, in their order."""
        return tuple(names_of(self.states[-1][1]))

    def showing_kept(self, name):
        """The SHOWING that is KEPT by a name; NoName."""
        return self.kept_by(name)[1]

    def saying_kept(self, name):
        """What the one SHOWS that is KEPT by a name; NoName."""
        return self.kept_by(name)[2]

    def library(self):
        """The LIBRARY of all KEPT ones."""
        return library_of(self.states[-1][1])

    def ask(self, saying):
        """A PLAIN SAYING ANSWERED by the HOUSE; NoHand."""
        check_hands(self.house(), hands_of(saying))
        return answered(self.house(), saying)

    def whole_showing(self, name, *, most=MOST):
        """The WHOLE of the one that is KEPT by a name, without rows "by"; NoName, NoMore."""
        self.kept_by(name)
        kept = self.states[-1][1]
        # Counted ahead: by names of names there may be far too many rows to write down.
        if whole_counts(kept)[name] > most:
            raise NoMore(most)
        wholes = {}
        needed = [name]
        for other, showing, saying in kept[::-1]:
            if other in needed:
                needed.extend(names_by(showing))
        for other, showing, saying in kept:
            if other in needed:
                wholes[other] = whole_of(showing, wholes)
        return wholes[name]

    def log(self):
        """The LOG."""
        return (("book", self.first), *self.deeds)

    def elder(self, k):
        """The HOUSE behind the first k deeds; NoStep."""
        if not 0 <= k <= len(self.deeds):
            raise NoStep(k)
        return self.states[k][0]

    def undo(self):
        """The row of the last deed, which is as if it had never been; NoStep."""
        if not self.deeds:
            raise NoStep(0)
        self.states.pop()
        return self.deeds.pop()

    def do_all(self, deeds, *, keep=False):
        """Do some deeds in one, none where one is refused, but those ahead of it where keep is True: how many."""
        many = len(self.deeds)
        self.goings += 1
        try:
            for deed in list(deeds):
                self.do_deed(deed)
        except (MustError, LackError):
            if not keep:
                del self.deeds[many:]
                del self.states[many + 1:]
            raise
        finally:
            self.goings -= 1
        return len(self.deeds) - many

    def walks(self):
        """How many goings through by do_all are being done."""
        return self.goings

    def do_deed(self, deed):
        """What the deed tells that a row of a LOG is of."""
        word = deed[0]
        if word == "lay":
            return self.lay(deed[1], deed[2])
        if word == "drop":
            return self.drop(deed[1])
        if word == "hand":
            return self.add_hand(deed[1])
        if word == "bare":
            return self.bare(deed[1])
        if word == "put":
            return self.put(deed[1], deed[2])
        if word == "take":
            return self.take(deed[1], deed[2])
        if word == "bridge":
            return self.bridge(deed[1], deed[2])
        return self.unbridge(deed[1], deed[2])

    def __len__(self):
        return len(self.deeds)

    def __eq__(self, other):
        return isinstance(other, Book) and self.first == other.first and self.deeds == other.deeds

    def __ne__(self, other):
        return not self == other

    def __str__(self):
        return " / ".join(log_lines(self.log()))

    def rules_here(self, hand):
        """The RULES of a HAND; NoHand."""
        check_hands(self.house(), (hand,))
        return rules_of(self.house(), hand)

    def kept_by(self, name):
        """What is KEPT by a name; NoName."""
        for one in self.states[-1][1]:
            if one[0] == name:
                return one
        raise NoName(name)

    def turn_rules(self, row, rules):
        """Turn to other RULES of the HAND that a row tells; NoRules."""
        hands, bridges = self.house()
        turned = [(hand, rules if hand == row[1] else others) for hand, others in hands]
        draft = (tuple(turned), bridges)
        lets_draft(draft)
        return self.turn(row, draft, (row[1],))

    def turn(self, row, house, hands):
        """Turn to another HOUSE, by the deed of a row: those are HIT in which one of some HANDS stands."""
        kept = self.states[-1][1]
        hit = [name for name, showing, saying in kept if do_stand(hands, showing)]
        kept, fell, judged = judged_anew(house, kept, hit)
        self.note(row, house, kept)
        return (fell, judged)

    def note(self, row, house, kept):
        """Note a deed that is done, by its row and what is behind it."""
        self.deeds.append(row)
        self.states.append((house, kept))


def risen(things, thing):
    """A rising tuple with a thing more."""
    return tuple(sorted([*things, thing]))


def names_of(kept):
    """The names of KEPT ones, in their order."""
    return [name for name, showing, saying in kept]


def library_of(kept):
    """The LIBRARY of KEPT ones."""
    return tuple(sorted([(name, saying) for name, showing, saying in kept]))


def names_by(showing):
    """The names that a SHOWING's rows "by" tell."""
    return [why[1] for saying, why in showing if why[0] == "by"]


def do_stand(hands, showing):
    """Whether one of some HANDS stands in a SHOWING, in a SAYING or a why."""
    for saying, why in showing:
        found = hands_of_row(saying, why)
        if any([hand in found for hand in hands]):
            return True
    return False


def hands_of_row(saying, why):
    """The HANDS that stand in a right row."""
    # What a why has stands in the SAYING, too, but p of "step" needn't.
    if why[0] == "rule":
        return (*hands_of(saying), *hands_of(why[3]))
    return hands_of(saying)


def kept_without(house, kept, name):
    """What stands of KEPT ones when that of a name goes, who FELL, and how many were judged."""
    left = tuple([one for one in kept if one[0] != name])
    hit = [other for other, showing, saying in left if name in names_by(showing)]
    return judged_anew(house, left, hit)


def judged_anew(house, kept, hit):
    """What stands of KEPT ones where those that are HIT are judged, and those that hang on one that FELL.

    Told besides are who FELL and how many were judged.
    """
    standing, fell, judged = [], [], 0
    for name, showing, saying in kept:
        fallen = [triple[0] for triple in fell]
        if name not in hit and not any([other in fallen for other in names_by(showing)]):
            standing.append((name, showing, saying))
            continue
        judged += 1
        fault = showing_fault(house, showing, library_of(standing))
        if fault is None:
            standing.append((name, showing, saying))
        else:
            fell.append((name, *fault))
    return (tuple(standing), tuple(fell), judged)


def whole_counts(kept):
    """How many rows the WHOLE of each KEPT one has, by its name."""
    counts = {}
    for name, showing, saying in kept:
        counts[name] = sum([counts[why[1]] if why[0] == "by" else 1 for said, why in showing])
    return counts


def whole_of(showing, wholes):
    """The WHOLE of a SHOWING, by the WHOLES of those that it names."""
    rows = []
    # Of each row of the SHOWING the number of the one that stands for it.
    stands = []
    for saying, why in showing:
        if why[0] == "by":
            whole = wholes[why[1]]
            calls = list(range(len(rows), len(rows) + len(whole)))
            rows.extend([(said, renumbered(reason, calls)) for said, reason in whole])
        else:
            rows.append((saying, renumbered(why, stands)))
        stands.append(len(rows) - 1)
    return tuple(rows)


def renumbered(why, calls):
    """A why whose rows are called otherwise."""
    if why[0] == "from":
        return ("from", tuple([calls[row] for row in why[1]]))
    if why[0] == "must":
        return ("must", calls[why[1]], why[2], why[3])
    return why
