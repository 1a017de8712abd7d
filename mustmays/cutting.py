"""The CUT of a WEB by a SAYING, and what is REACHED from a WORLD."""

from mustmays.holding import check_world, web_of_worlds, worlds_where
from mustmays.leastwebs import worlds_reached


def cut_web(web, saying):
    """The WEB of the WORLDS at which a SAYING HOLDS; None where it HOLDS nowhere."""
    worlds = worlds_where(web, saying)
    if not worlds:
        return None
    return web_of_worlds(web, worlds)


def reached_web(web, world):
    """The WEB of the WORLDS that are REACHED from one, and how this one is called in it; NoWorld."""
    check_world(web, world)
    worlds = worlds_reached(web, world)
    return (web_of_worlds(web, worlds), worlds.index(world))
