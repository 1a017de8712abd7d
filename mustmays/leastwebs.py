"""The LEAST WEB of a WEB: one WORLD for each CLASS of like WORLDS."""

from mustmays.holding import check_world, web_of_worlds
from mustmays.likeness import class_rounds


def least_web(web, *, start=None):
    """The LEAST WEB and the number of each WORLD's CLASS, perhaps of what is REACHED from start alone."""
    worlds = list(range(web[0]))
    if start is not None:
        check_world(web, start)
        worlds = worlds_reached(web, start)
    part = web_of_worlds(web, worlds)
    classes = class_rounds(part)[-1]
    calls = [None] * web[0]
    for world, name in zip(worlds, classes):
        calls[world] = name
    return (web_of_classes(part, classes), tuple(calls))


def worlds_reached(web, start):
    """The WORLDS to which rows of STEPS lead from a WORLD, itself too, rising."""
    goals = {}
    for hand, pairs in web[1]:
        for x, y in pairs:
            goals.setdefault(x, []).append(y)
    reached = {start: True}
    waiting = [start]
    while waiting:
        world = waiting.pop()
        for goal in goals.get(world, ()):
            if goal not in reached:
                reached[goal] = True
                waiting.append(goal)
    return sorted(list(reached))


def web_of_classes(web, classes):
    """The WEB that has a WORLD for each CLASS, with the STEPS and letters of the WORLDS in it."""
    steps = []
    for hand, pairs in web[1]:
        steps.append((hand, tuple(sorted({(classes[x], classes[y]) for x, y in pairs}))))
    letters = []
    for word, worlds in web[2]:
        letters.append((word, tuple(sorted({classes[world] for world in worlds}))))
    return (max(classes) + 1, tuple(steps), tuple(letters))
