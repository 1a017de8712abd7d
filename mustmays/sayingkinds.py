"""Of any thing: is it a WORD, a SAYING, a PLAIN SAYING."""

MOST_SIGNS = 8


def is_word(thing):
    """Whether any thing is a text of one to eight small letters."""
    if not isinstance(thing, str) or not 1 <= len(thing) <= MOST_SIGNS:
        return False
    return all(["a" <= sign <= "z" for sign in thing])


def is_saying(thing):
    """Whether any thing is a SAYING."""
    return is_built(thing, True)


def is_plain_saying(thing):
    """Whether any thing is a SAYING without "told" in it."""
    return is_built(thing, False)


def is_built(thing, with_told):
    """Whether a thing is built as a SAYING is, perhaps with "told" in it."""
    waiting = [thing]
    # A list of what waits, no call within a call: things may be deep.
    while waiting:
        within = things_within(waiting.pop(), with_told)
        if within is None:
            return False
        waiting.extend(within)
    return True


def things_within(thing, with_told):
    """What stands in a thing where SAYINGS belong; None where it can be no SAYING."""
    if not isinstance(thing, tuple) or len(thing) not in (2, 3):
        return None
    word = thing[0]
    if len(thing) == 2:
        return things_within_pair(word, thing[1])
    if word == "so" or (word == "told" and with_told):
        return thing[1:]
    if word in ("must", "may") and is_word(thing[1]):
        return thing[2:]
    return None


def things_within_pair(word, thing):
    """The same of a pair: of a word and one thing behind it."""
    if word == "letter" and is_word(thing):
        return ()
    if word == "not":
        return (thing,)
    if word in ("and", "or") and isinstance(thing, tuple):
        return thing
    return None
