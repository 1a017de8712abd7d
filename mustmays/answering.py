"""Of each SAYING just one of both: a SHOWING, or a WEB against it."""

from mustmays.deciding import against_left
from mustmays.fitting import hands_behind, must_masks, rules_of
from mustmays.rounds import GoneSorts
from mustmays.rulekinds import bridges_led
from mustmays.ruleschemes import bridge_scheme, rule_said, scheme_of
from mustmays.showjudge import musted
from mustmays.truthtables import has_bit

NEVER = ("or", ())


def answered(house, saying):
    """("shown", showing) of a SAYING OF the HOUSE, or ("against", web, world)."""
    gone = GoneSorts(house, saying)
    against = against_left(gone)
    if against is not None:
        return against
    false = gone.table.where_false(gone.core)
    shown = ShownRows(house, gone.table)
    for going in gone.rounds:
        for at, why in going:
            # What bars one SORT may bar others, too: no rows for these, nor for those that tell it true.
            if has_bit(shown.loose, at) and shown.loose & false != 0:
                shown.bar(at, why)
    return ("shown", (*shown.rows, (saying, ("from", tuple(shown.bars)))))


class RuleRows:
    """Rows of a SHOWING in a HOUSE, its home; each method tells the number of a row of what it is asked for."""

    def __init__(self, home):
        self.home = home
        self.rows = []

    def by_rule(self, word, hand, body):
        """The row of a SCHEME of a HAND."""
        return self.noted(scheme_of(self.home, hand, word, body), ("rule", word, hand, body))

    def by_bridge(self, one, other, body):
        """The row of the SCHEME of a bridge."""
        return self.noted(bridge_scheme(self.home, one, other, body), ("bridge", one, other, body))

    def round_by_others(self, hand, body):
        """The row of the SCHEME "round" of a HAND that has "back" and "on"."""
        must = ("must", hand, body)
        twice = self.by_rule("on", hand, body)
        turned = self.followed(("so", ("not", ("must", hand, must)), ("not", must)), [twice])
        led = self.noted(musted(self.rows[turned][0], hand, 1), ("must", turned, hand, 1))
        back = self.by_rule("back", hand, must)
        return self.followed(rule_said(hand, "round", body), [led, back])

    def followed(self, saying, rows):
        """The row of a SAYING that FOLLOWS from others."""
        return self.noted(saying, ("from", tuple(sorted(set(rows)))))

    def noted(self, saying, why):
        """The number of the row of a SAYING, a new one where there is none."""
        for k, row in enumerate(self.rows):
            if row[0] == saying:
                return k
        self.rows.append((saying, why))
        return len(self.rows) - 1


class ShownRows(RuleRows):
    """Rows that bar SORTS: bars has the numbers of the rows that do, loose the mask of the SORTS that aren't barred."""

    def __init__(self, home, table):
        RuleRows.__init__(self, home)
        self.table = table
        self.bars = []
        self.loose = table.full

    def bar(self, at, why):
        """Rows that bar the SORT at a place, which GOES by those barred so far."""
        if why[0] == "self":
            self.keep_bar(self.by_rule("self", why[1][1], why[1][2]))
        elif why[0] == "step":
            closing = self.by_rule("step", why[1], NEVER)
            self.bar_by(at, why[1], NEVER, [], [closing])
        else:
            atom = why[1]
            goal, closing = atom[2], []
            if "ends" in rules_of(self.home, atom[1]):
                goal = ("so", atom, atom[2])
                closing.append(self.by_rule("ends", atom[1], atom[2]))
            self.bar_by(at, atom[1], goal, [("not", atom)], closing)

    def bar_by(self, at, hand, goal, asked, closing):
        """Bar a SORT in which the HAND must have a goal by what FITS and what is barred, and can't.

        asked is what else of the SORT it takes, closing the rows by which it can't.
        """
        leads = self.needed_leads(at, hand, goal)
        said = goal
        for lead in leads[::-1]:
            said = ("so", lead[1], said)
        row = self.noted(said, ("from", tuple(self.bars)))
        rows = [self.noted(musted(said, hand, len(leads)), ("must", row, hand, len(leads))), *closing]
        for lead in leads:
            rows.extend(self.lead_rows(lead, hand))
        barred = ("not", ("and", tuple([lead[0] for lead in leads] + asked)))
        self.keep_bar(self.followed(barred, rows))

    def keep_bar(self, row):
        """Count a row among those that bar SORTS."""
        self.bars.append(row)
        self.loose &= self.table.where_true(self.rows[row][0])

    def needed_leads(self, at, hand, goal):
        """Leads of a SORT, none too many, by which all that FIT it and aren't barred have the goal."""
        needed = leads_of(self.home, self.table, at, hand)
        for lead in list(needed):
            fewer = [one for one in needed if one != lead]
            if self.do_lead(fewer, goal):
                needed = fewer
        return needed

    def do_lead(self, leads, goal):
        """Whether each SORT that isn't barred and has what leads gain has the goal."""
        missing = self.loose & self.table.where_false(goal)
        for lead in leads:
            missing &= self.table.where_true(lead[1])
        return missing == 0

    def lead_rows(self, lead, hand):
        """The row, if it takes one, by which what is asked in a lead makes the HAND must what is gained."""
        asked, gained, one, word, body = lead
        rows = []
        if word in ("back", "on", "round"):
            rows.append(self.by_rule(word, one, body))
        elif word == "back on":
            rows.append(self.round_by_others(one, body))
        for ahead, behind in bridges_led(self.home, one, hand):
            rows.append(self.by_bridge(ahead, behind, gained))
        if len(rows) < 2:
            return rows
        return [self.followed(("so", asked, ("must", hand, gained)), rows)]


def leads_of(house, table, at, hand):
    """What each SORT must have that FITS the one at a place for a HAND: (asked, gained, one, word, body).

    What is asked is true in the one; by the word ("" of none) for the HAND one, from which bridges lead to
    the HAND, and its ATOM of the body, what is gained is true in the other.
    """
    leads = []
    for one in hands_behind(house, hand):
        for atom, must, body in must_masks(table):
            if atom[1] == one:
                leads.extend(leads_by(rules_of(house, one), atom, has_bit(must, at), has_bit(body, at)))
    return leads


def leads_by(rules, atom, must, body):
    """The leads by one ATOM, as it and its body are true in a SORT or not."""
    one, inner = atom[1:]
    leads = []
    if must:
        leads.append((atom, inner, one, "", inner))
        if "on" in rules:
            leads.append((atom, atom, one, "on", inner))
    elif "round" in rules:
        leads.append((("not", atom), ("not", atom), one, "round", inner))
    elif "on" in rules and "back" in rules:
        leads.append((("not", atom), ("not", atom), one, "back on", inner))
    if "back" in rules and not body:
        leads.append((("not", inner), ("not", atom), one, "back", inner))
    return leads
