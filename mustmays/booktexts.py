"""HOUSES, SHOWINGS, deeds and LOGS as texts."""

from mustmays.sayingtexts import saying_text


def house_word(house):
    """A HOUSE as one word."""
    hands = [hand + ":" + (",".join(rules) or "-") for hand, rules in house[0]]
    bridges = [one + ">" + other for one, other in house[1]]
    return ";".join(hands) + "/" + (";".join(bridges) or "-")


def showing_text(showing):
    """A SHOWING as a text, its rows with " | " between."""
    return " | ".join([saying_text(saying) + " " + why_text(why) for saying, why in showing])


def deed_line(deed):
    """A deed's row of a LOG as a line."""
    if deed[0] == "lay":
        return "lay " + deed[1] + " " + showing_text(deed[2])
    return " ".join(deed)


def log_lines(log):
    """A LOG as a list of lines."""
    return ["book " + house_word(log[0][1]), *[deed_line(deed) for deed in log[1:]]]


def why_text(why):
    """The why of a row as a text."""
    word = why[0]
    if word == "from":
        return "from " + (",".join([str(row) for row in why[1]]) or "-")
    if word == "must":
        return f"must {why[1]} {why[2]} {why[3]}"
    if word == "by":
        return "by " + why[1]
    return f"{word} {why[1]} {why[2]} {saying_text(why[3])}"
