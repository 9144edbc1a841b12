"""The errors that the package raises."""


class DueError(ValueError):
    """Above all errors of the package."""


class NoTree(DueError):
    """What should be a tree is none; at is the number of the first wrong row."""

    def __init__(self, at):
        DueError.__init__(self, "not a tree")
        self.at = at


class NoName(DueError):
    """A name that is not there, or that may not stand here."""


class NoWord(DueError):
    """Not a word of a due."""


class NoDue(DueError):
    """A value that the due may not have."""


class NoUses(DueError):
    """Not a dict from leaves to amounts."""


class NoKind(DueError):
    """Not a kind of protection."""


class NoAmount(DueError):
    """Not an amount, or not one that may stand here."""


class NoLeaves(DueError):
    """Two trees whose leaves are not the same."""


class NoWants(DueError):
    """Not a list of dicts from leaves to amounts."""


class NoNumber(DueError):
    """Not a number that may stand here."""


class NoSet(DueError):
    """Not a set of processors."""


class NoRow(DueError):
    """A row that has none of the forms."""


class Refused(DueError):
    """A row that cannot be done; kind is the word for why."""

    def __init__(self, kind):
        DueError.__init__(self, "refused")
        self.kind = kind
