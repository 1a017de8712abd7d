"""SHOWINGS in one HOUSE LED to another one that makes its RULES."""

from mustmays.answering import NEVER, RuleRows
from mustmays.beneath import beneath_fault, made_rules
from mustmays.errors import NoRules
from mustmays.fitting import rules_of
from mustmays.rulekinds import bridges_led
from mustmays.ruleschemes import bridge_said, rule_said
from mustmays.showjudge import lets_showing, musted


def showing_led(one, other, showing):
    """A SHOWING in the other HOUSE of what a SHOWING in the one SHOWS; NoRules, NoPaper."""
    fault = beneath_fault(one, other)
    if fault is not None:
        raise NoRules(fault[0], fault[1])
    lets_showing(one, showing)
    led = LedRows(other)
    # Of each row of the SHOWING the number of the one that stands for it.
    stands = []
    for saying, why in showing:
        stands.append(led.lead(saying, why, stands))
    # The last may stand there since long: nothing behind it is needed.
    return tuple(led.rows[:stands[-1] + 1])


class LedRows(RuleRows):
    """Rows that stand for those of another HOUSE, all whose RULES the home makes."""

    def lead(self, saying, why, stands):
        """The row that stands for a right row of the other HOUSE, by those that stand for the ones ahead."""
        word = why[0]
        if word == "from":
            return self.followed(saying, [stands[row] for row in why[1]])
        if word == "must":
            return self.noted(saying, (word, stands[why[1]], why[2], why[3]))
        if word == "rule":
            return self.by_made(why[1], why[2], why[3])
        return self.by_bridges(why[1], why[2], why[3])

    def by_made(self, word, hand, body):
        """The row of the SCHEME of a HAND by a RULE that is MADE for it."""
        if word in rules_of(self.home, hand):
            return self.by_rule(word, hand, body)
        # What makes a RULE the HAND has itself: only "step" may come by others, along bridges.
        if word == "step":
            return self.followed(rule_said(hand, word, NEVER), self.step_makers(hand))
        if word == "round":
            return self.round_by_others(hand, body)
        if word == "self":
            return self.followed(rule_said(hand, word, body), self.self_makers(hand, body))
        makers = [self.by_rule("self", hand, body), self.by_rule("round", hand, body)]
        return self.followed(rule_said(hand, word, body), makers)

    def by_bridges(self, one, other, body):
        """The row of the SCHEME of a bridge, by bridges one behind the other."""
        first, *more = bridges_led(self.home, one, other)
        led = self.by_bridge(first[0], first[1], body)
        for ahead, behind in more:
            led = self.followed(bridge_said(one, behind, body), [led, self.by_bridge(ahead, behind, body)])
        return led

    def step_makers(self, hand):
        """Rows from which it FOLLOWS that a HAND can't have it that nothing is let."""
        if "self" in rules_of(self.home, hand):
            return [self.by_rule("self", hand, NEVER)]
        ways = [other for one, other in self.home[1] if one == hand and "step" in made_rules(self.home, other)]
        return [self.by_made("step", ways[0], NEVER), self.by_bridge(hand, ways[0], NEVER)]

    def self_makers(self, hand, body):
        """Rows of "back", "on" and "step" from which it FOLLOWS that what must be is so."""
        must = ("must", hand, body)
        # Were body false, a STEP would lead by "step": there it must be by "on", and mustn't by "back".
        never = self.followed(("so", must, ("so", ("not", must), NEVER)), [])
        led = self.noted(musted(self.rows[never][0], hand, 2), ("must", never, hand, 2))
        back, on = self.by_rule("back", hand, body), self.by_rule("on", hand, body)
        return [led, back, on, self.by_made("step", hand, NEVER)]
