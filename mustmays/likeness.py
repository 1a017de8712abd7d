"""Which WORLDS of a WEB are alike: ROUNDS of CLASSES."""


def class_rounds(web):
    """ROUNDS of a WEB up to the one that changes nothing: in each the CLASS of each WORLD."""
    classes = numbered(letters_at(web))
    told = [classes]
    finer = finer_classes(web, classes)
    while finer != classes:
        classes = finer
        told.append(classes)
        finer = finer_classes(web, classes)
    return tuple(told)


def finer_classes(web, classes):
    """The CLASSES of the round behind the one with these: to which of them STEPS lead counts, too."""
    marks = [[name] for name in classes]
    for hand, pairs in web[1]:
        goals = [0] * web[0]
        for x, y in pairs:
            goals[x] |= 1 << classes[y]
        for world, goal in enumerate(goals):
            marks[world].append(goal)
    return numbered([tuple(mark) for mark in marks])


def letters_at(web):
    """For each WORLD the letters that are true there."""
    marks = [0] * web[0]
    for at, letter in enumerate(web[2]):
        for world in letter[1]:
            marks[world] |= 1 << at
    return marks


def numbered(marks):
    """For each mark its number, like marks alike, counted as they first stand there."""
    numbers = {}
    for mark in marks:
        numbers.setdefault(mark, len(numbers))
    return tuple([numbers[mark] for mark in marks])
