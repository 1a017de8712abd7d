"""SAYINGS put for letters."""

from mustmays.sayingparts import inner_sayings, with_inner


def letters_put(saying, puts):
    """The SAYING with each letter that has a pair in PUTS put as that pair's SAYING, all at once."""
    if saying[0] == "letter":
        for word, other in puts:
            if word == saying[1]:
                return other
        return saying
    return with_inner(saying, tuple([letters_put(part, puts) for part in inner_sayings(saying)]))
