"""SAYINGS with "not" PUSHED IN, right ahead of letters."""

from mustmays.sayingparts import inner_sayings, with_inner

# What a SAYING's word turns to where it isn't so.
OTHER_WORDS = {"and": "or", "or": "and", "must": "may", "may": "must"}


def pushed_in(saying):
    """The PLAIN SAYING with "not" ahead of letters alone, and no "so"."""
    return pushed(saying, True)


def pushed(saying, is_so):
    """The SAYING PUSHED IN, or, where is_so is False, that it isn't so."""
    word = saying[0]
    if word == "letter":
        return saying if is_so else ("not", saying)
    if word == "not":
        return pushed(saying[1], not is_so)
    if word == "so":
        return ("or" if is_so else "and", (pushed(saying[1], not is_so), pushed(saying[2], is_so)))
    inside = with_inner(saying, tuple([pushed(part, is_so) for part in inner_sayings(saying)]))
    return inside if is_so else (OTHER_WORDS[word], *inside[1:])
