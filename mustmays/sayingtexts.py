"""SAYINGS as texts."""


def saying_text(saying):
    """The text of a SAYING, without blanks."""
    pieces = []
    waiting = [saying]
    # A list of what waits, no call within a call: SAYINGS that are told may be deep.
    while waiting:
        thing = waiting.pop()
        if isinstance(thing, str):
            pieces.append(thing)
        else:
            waiting.extend(written_things(thing)[::-1])
    return "".join(pieces)


def written_things(saying):
    """Texts, and the SAYINGS between them, that one behind the other are a SAYING's text."""
    word = saying[0]
    if word == "letter":
        return [saying[1]]
    if word == "not":
        return ["~", saying[1]]
    if word == "and":
        return joined_things(saying[1], "T", "&")
    if word == "or":
        return joined_things(saying[1], "F", "|")
    if word == "so":
        return ["(", saying[1], ">", saying[2], ")"]
    if word == "must":
        return ["[", saying[1], "]", saying[2]]
    if word == "may":
        return ["<", saying[1], ">", saying[2]]
    return ["{", saying[1], "}", saying[2]]


def joined_things(some, none, sign):
    """The same of an "and" or an "or" of some SAYINGS: how none is written, and the sign between more."""
    if not some:
        return [none]
    if len(some) == 1:
        return ["(", sign, some[0], ")"]
    things = ["(", some[0]]
    for saying in some[1:]:
        things.extend([sign, saying])
    things.append(")")
    return things
