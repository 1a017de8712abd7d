"""What stands in a SAYING: its PARTS, letters and HANDS, and how deep it is."""


def parts_of_saying(saying):
    """The unlike PARTS of a SAYING, a rising tuple."""
    return rising(every_part(saying))


def letters_of(saying):
    """The WORDS of the letters in a SAYING, rising."""
    return tuple(sorted({part[1] for part in every_part(saying) if part[0] == "letter"}))


def hands_of(saying):
    """The HANDS of the "must" and "may" in a SAYING, rising."""
    return tuple(sorted({part[1] for part in every_part(saying) if part[0] in ("must", "may")}))


def depth_of(saying):
    """How deep a SAYING is: 1 more than the deepest that stands in it."""
    return 1 + max([depth_of(part) for part in inner_sayings(saying)], default=0)


def inner_sayings(saying):
    """The SAYINGS that stand straight in a SAYING, in their places."""
    word = saying[0]
    if word == "letter":
        return ()
    if word in ("and", "or"):
        return saying[1]
    if word in ("must", "may"):
        return saying[2:]
    return saying[1:]


def with_inner(saying, inner):
    """The SAYING with other SAYINGS in the places of those that stand straight in it."""
    word = saying[0]
    if word == "letter":
        return saying
    if word in ("and", "or"):
        return (word, inner)
    if word in ("must", "may"):
        return (word, saying[1], *inner)
    return (word, *inner)


def every_part(saying):
    """All PARTS of a SAYING, each as often as it stands there."""
    found = []
    waiting = [saying]
    while waiting:
        part = waiting.pop()
        found.append(part)
        waiting.extend(inner_sayings(part))
    return found


def rising(sayings):
    """The unlike ones of some SAYINGS, a rising tuple."""
    told = []
    # Neighbours are compared: SAYINGS may be too deep to be members of a set.
    for saying in sorted(sayings):
        if not told or told[-1] != saying:
            told.append(saying)
    return tuple(told)
