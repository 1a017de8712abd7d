"""SAYINGS said IN FEW WORDS: letters, "not", "and" and "must" alone."""

from mustmays.sayingparts import inner_sayings, with_inner


def in_few_words(saying):
    """The PLAIN SAYING with "or", "so" and "may" put as others, within others too."""
    inner = tuple([in_few_words(part) for part in inner_sayings(saying)])
    word = saying[0]
    if word == "or":
        return ("not", ("and", tuple([("not", part) for part in inner])))
    if word == "so":
        return ("not", ("and", (inner[0], ("not", inner[1]))))
    if word == "may":
        return ("not", ("must", saying[1], ("not", inner[0])))
    return with_inner(saying, inner)
