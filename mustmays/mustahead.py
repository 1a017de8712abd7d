"""SAYINGS with a "must" ahead, and what is behind a WORLD by one HAND."""

from mustmays.holding import check_world, listed, web_of_worlds


def must_ahead(saying, hand):
    """The SAYING that the HAND must have it so."""
    return ("must", hand, saying)


def web_behind(web, hand, world):
    """The WEB of the WORLDS to which STEPS of the HAND lead from one; None where none does; NoWorld."""
    check_world(web, world)
    goals = [y for x, y in listed(web[1], hand) if x == world]
    if not goals:
        return None
    return web_of_worlds(web, goals)
