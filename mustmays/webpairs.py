"""WORLDS of two WEBS: paired by a PAIR PAPER, or parted by a SAYING."""

from mustmays.holding import check_world
from mustmays.likeness import class_rounds


def pair_paper(web, world, other, second):
    """A PAIR PAPER of two WEBS that has a WORLD of each as a pair, None where there is none; NoWorld."""
    classes = rounds_of_both(web, world, other, second)[-1]
    many = web[0]
    if classes[world] != classes[many + second]:
        return None
    return tuple([(x, y) for x in range(many) for y in range(other[0]) if classes[x] == classes[many + y]])


def parting_saying(web, world, other, second):
    """A PLAIN SAYING that HOLDS at the first WORLD and not at the other, None where none does; NoWorld."""
    rounds = rounds_of_both(web, world, other, second)
    if rounds[-1][world] == rounds[-1][web[0] + second]:
        return None
    return WorldParter(web_of_both(web, other), rounds).saying(world, web[0] + second)


def rounds_of_both(web, world, other, second):
    """The ROUNDS of both WEBS in one; NoWorld, the first one's first."""
    check_world(web, world)
    check_world(other, second)
    return class_rounds(web_of_both(web, other))


def web_of_both(web, other):
    """The WEB of both: the other's WORLDS are called on behind those of the first."""
    many = web[0]
    steps = {hand: list(pairs) for hand, pairs in web[1]}
    for hand, pairs in other[1]:
        steps.setdefault(hand, []).extend([(many + x, many + y) for x, y in pairs])
    letters = {word: list(worlds) for word, worlds in web[2]}
    for word, worlds in other[2]:
        letters.setdefault(word, []).extend([many + x for x in worlds])
    return (many + other[0], rising_pairs(steps), rising_pairs(letters))


def rising_pairs(table):
    """The rising tuple of pairs that a dict of lists by WORDS tells."""
    return tuple([(word, tuple(table[word])) for word in sorted(list(table))])


class WorldParter:
    """Parts WORLDS of a WEB by its ROUNDS: what isn't alike in a round has STEPS to what wasn't in the one ahead."""

    def __init__(self, web, rounds):
        self.web = web
        self.rounds = rounds

    def saying(self, x, y):
        """A SAYING that HOLDS at x and not at y, of as many "must" and "may" within others as rounds part them."""
        parted = [k for k, classes in enumerate(self.rounds) if classes[x] != classes[y]][0]
        if parted == 0:
            return self.letter(x, y)
        ahead = self.rounds[parted - 1]
        for hand, pairs in self.web[1]:
            goals, others = first_goals(pairs, ahead, x), first_goals(pairs, ahead, y)
            for name in goals:
                if name not in others:
                    return ("may", hand, ("and", tuple([self.saying(goals[name], w) for w in others.values()])))
            for name in others:
                if name not in goals:
                    return ("must", hand, ("or", tuple([self.saying(z, others[name]) for z in goals.values()])))
        return None

    def letter(self, x, y):
        """A letter that is true at x and not at y, or that one isn't so which is true at y and not at x."""
        for word, worlds in self.web[2]:
            if x in worlds and y not in worlds:
                return ("letter", word)
            if y in worlds and x not in worlds:
                return ("not", ("letter", word))
        return None


def first_goals(pairs, classes, world):
    """For each CLASS to which STEPS lead from a WORLD the first WORLD of it to which one does."""
    goals = {}
    for x, y in pairs:
        if x == world:
            goals.setdefault(classes[y], y)
    return goals
