"""A BOOK by [72] to [78], word by word: everything is copied ahead of each deed. Nothing here is the program's."""

from tests.judges import draft_refusal, showing_refusal
from tests.plainly import hands_in


class Refused(Exception):
    """The name of the refusal's class, and its fields."""


class PlainBook:
    def __init__(self, house):
        self.first = house
        self.now = house
        self.kept = []
        self.rows = []
        self.past = []

    def do(self, row):
        """What the deed of a row tells; Refused: then nothing is changed."""
        ahead = (self.now, list(self.kept))
        try:
            told = self.deed(*row)
        except Refused:
            self.now, self.kept = ahead
            raise
        self.past.append(ahead)
        self.rows.append(row)
        return told

    def deed(self, word, *rest):
        if word == "lay":
            return self.lay(*rest)
        if word == "drop":
            if rest[0] not in self.names():
                raise Refused("NoName", rest[0])
            return self.gone(rest[0])
        if word in ("bridge", "unbridge"):
            return self.turn_bridge(word, *rest)
        return self.turn_hand(word, *rest)

    def names(self):
        return [name for name, thing in self.kept]

    def library(self, kept):
        return tuple(sorted((name, thing[-1][0]) for name, thing in kept))

    def lay(self, name, thing):
        fell, judged = self.gone(name) if name in self.names() else ((), 0)
        found = showing_refusal(self.now, thing, self.library(self.kept))
        if found is not None:
            raise Refused("NoPaper", *found)
        self.kept.append((name, thing))
        return (thing[-1][0], fell, judged)

    def gone(self, name):
        self.kept = [one for one in self.kept if one[0] != name]
        return self.anew(lambda thing: any(why == ("by", name) for s, why in thing))

    def turn_hand(self, word, hand, rule=None):
        hands, bridges = dict(self.now[0]), self.now[1]
        if word == "hand":
            if hand in hands:
                raise Refused("NoRules", "there", hand)
            hands[hand] = ()
        elif hand not in hands:
            raise Refused("NoHand", hand)
        elif word == "bare":
            if len(hands) == 1:
                raise Refused("NoRules", "last", hand)
            del hands[hand]
            bridges = tuple(b for b in bridges if hand not in b)
        elif (word == "put") == (rule in hands[hand]):
            raise Refused("NoRules", "there" if word == "put" else "none", hand)
        else:
            hands[hand] = tuple(sorted(set(hands[hand]) ^ {rule}))
        return self.turn((tuple(sorted(hands.items())), bridges), (hand,))

    def turn_bridge(self, word, one, other):
        hands, bridges = self.now
        if (word == "bridge") == ((one, other) in bridges):
            raise Refused("NoRules", "there" if word == "bridge" else "none", one)
        return self.turn((hands, tuple(sorted(set(bridges) ^ {(one, other)}))), (one, other))

    def turn(self, draft, hands):
        found = draft_refusal(draft)
        if found is not None:
            raise Refused("NoRules", *found)
        self.now = draft
        return self.anew(lambda thing: any(self.hands_of_row(*row) & set(hands) for row in thing))

    def hands_of_row(self, s, why):
        found = set(hands_in(s))
        if why[0] == "must":
            found.add(why[2])
        if why[0] == "rule":
            found |= {why[2]} | set(hands_in(why[3]))
        if why[0] == "bridge":
            found |= {why[1], why[2]} | set(hands_in(why[3]))
        return found

    def anew(self, is_hit):
        standing, fell, judged = [], [], 0
        for name, thing in self.kept:
            fallen = [triple[0] for triple in fell]
            if is_hit(thing) or any(why[0] == "by" and why[1] in fallen for s, why in thing):
                judged += 1
                found = showing_refusal(self.now, thing, self.library(standing))
                if found is not None:
                    fell.append((name,) + found)
                    continue
            standing.append((name, thing))
        self.kept = standing
        return (tuple(fell), judged)

    def whole(self, name):
        """The WHOLE, all numbers put as they must be."""
        rows, calls = [], []
        for s, why in dict(self.kept)[name]:
            if why[0] == "by":
                ahead = len(rows)
                for t, reason in self.whole(why[1]):
                    if reason[0] == "from":
                        reason = ("from", tuple(k + ahead for k in reason[1]))
                    elif reason[0] == "must":
                        reason = ("must", reason[1] + ahead) + reason[2:]
                    rows.append((t, reason))
            elif why[0] == "from":
                rows.append((s, ("from", tuple(calls[k] for k in why[1]))))
            elif why[0] == "must":
                rows.append((s, ("must", calls[why[1]]) + why[2:]))
            else:
                rows.append((s, why))
            calls.append(len(rows) - 1)
        return tuple(rows)
