"""Of any thing: is it a WEB; and the looks at numbers, pairs and rising tuples that other kinds need, too."""

from mustmays.sayingkinds import is_word


def is_web(thing):
    """Whether any thing is a WEB."""
    if not isinstance(thing, tuple) or len(thing) != 3:
        return False
    many, steps, letters = thing
    if not is_number(many) or many < 1:
        return False
    if not is_worded(steps) or not is_worded(letters):
        return False
    return (
        all([are_steps(pairs, many) for hand, pairs in steps])
        and all([are_worlds(worlds, many) for word, worlds in letters])
    )


def is_number(thing):
    """Whether any thing is a NUMBER: True and False are none."""
    return isinstance(thing, int) and not isinstance(thing, bool)


def is_pair(thing):
    """Whether any thing is a tuple of two."""
    return isinstance(thing, tuple) and len(thing) == 2


def is_worded(thing):
    """Whether any thing is a tuple of pairs of a WORD and a thing, the WORDS unlike and rising."""
    if not isinstance(thing, tuple) or not all([is_pair(pair) and is_word(pair[0]) for pair in thing]):
        return False
    return are_rising([pair[0] for pair in thing])


def are_rising(things):
    """Whether each of some things, all of one kind, is above the one ahead."""
    return all([one < other for one, other in zip(things, things[1:])])


def are_steps(thing, many):
    """Whether any thing is a rising tuple of one pair or more of so many WORLDS."""
    if not isinstance(thing, tuple) or not thing:
        return False
    if not all([is_pair(pair) and is_world(pair[0], many) and is_world(pair[1], many) for pair in thing]):
        return False
    return are_rising(thing)


def are_worlds(thing, many):
    """Whether any thing is a rising tuple of one or more of so many WORLDS."""
    if not isinstance(thing, tuple) or not thing:
        return False
    return all([is_world(world, many) for world in thing]) and are_rising(thing)


def is_world(thing, many):
    """Whether any thing is one of so many WORLDS."""
    return is_number(thing) and 0 <= thing < many
