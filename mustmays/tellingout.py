"""SAYINGS with "told" TAKEN OUT."""

from mustmays.sayingparts import inner_sayings, with_inner


def told_out(saying):
    """The PLAIN SAYING that a SAYING becomes with each "told" TAKEN OUT, within others too."""
    inner = tuple([told_out(part) for part in inner_sayings(saying)])
    if saying[0] == "told":
        return said_behind(inner[1], inner[0])
    return with_inner(saying, inner)


def said_behind(saying, told):
    """A PLAIN SAYING BEHIND another one, which is told."""
    word = saying[0]
    inner = tuple([said_behind(part, told) for part in inner_sayings(saying)])
    if word == "may":
        # What isn't so once it is told goes out: a STEP leads on but to what stays.
        return ("so", told, ("may", saying[1], ("and", (told, inner[0]))))
    behind = with_inner(saying, inner)
    if word in ("and", "so"):
        return behind
    return ("so", told, behind)
