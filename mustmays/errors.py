"""The refusals: two bases, and straight under them one class for each kind of refusal.

None of them looks at its fields: what was refused may be any thing, and stays the very one.
"""


class MustError(ValueError):
    """The base of refusals of what is wrong in itself."""


class LackError(LookupError):
    """The base of refusals of what is asked for and isn't there."""


class NoPaper(MustError):
    """A thing is not let by: which word of the judge, and at which place."""

    def __init__(self, word, at):
        self.word = word
        self.at = at


class NoRules(MustError):
    """Rules can't be so: which word, and of which HAND."""

    def __init__(self, word, hand):
        self.word = word
        self.hand = hand


class NoMore(MustError):
    """There would be more than so many."""

    def __init__(self, many):
        self.many = many


class NoShowing(MustError):
    """A showing fails at a row: for those who ask, nothing here refuses with it."""

    def __init__(self, row, word):
        self.row = row
        self.word = word


class NoText(MustError):
    """A text writes nothing: which line, and which word of it."""

    def __init__(self, line, word):
        self.line = line
        self.word = word


class NoRow(MustError):
    """A desk is asked with a row that is none."""

    def __init__(self, row):
        self.row = row


class NoWorld(LackError):
    """A WEB has no such WORLD."""

    def __init__(self, world):
        self.world = world


class NoHand(LackError):
    """A HOUSE has no such HAND."""

    def __init__(self, hand):
        self.hand = hand


class NoName(LackError):
    """Nothing is kept by such a name."""

    def __init__(self, name):
        self.name = name


class NoStep(LackError):
    """There is no deed of such a number."""

    def __init__(self, number):
        self.number = number
