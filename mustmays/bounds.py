"""The bounds and words that the whole program shares."""

LET_WORDS = ("back", "ends", "on", "round", "self", "step")

MOST = 400
