"""All errors of the package."""


class LimitError(ValueError):
    """A value that is not what it must be; takes a message."""


class InvalidMachine(LimitError):
    """Not a machine, or not an alphabet."""


class InvalidWord(LimitError):
    """Not a word, or not a letter, of the alphabet."""


class InvalidRun(LimitError):
    """Not a run of the machine."""


class InvalidRow(LimitError):
    """Not a row of the machine for the cap."""


class InvalidTable(LimitError):
    """Not a table of the size."""


class InvalidRecipe(LimitError):
    """Not a recipe, or one that does not fit."""


class InvalidWritten(LimitError):
    """Not a written word of the alphabet."""


class InvalidPattern(LimitError):
    """Not a pattern."""


class InvalidOperation(LimitError):
    """Something that cannot be done with these values."""


class ParseError(LimitError):
    """Not the text of such a value."""


class InvalidCommand(LimitError):
    """Not a command of the shell."""


class UnknownName(KeyError):
    """A name that must be there and is not."""

    def __init__(self, name):
        self.name = name


class InvalidNumber(IndexError):
    """Not a number that may stand in this place."""

    def __init__(self, value):
        self.value = value


class TooLarge(OverflowError):
    """More than the stated limit."""

    def __init__(self, limit):
        self.limit = limit


class Unlimited(ArithmeticError):
    """No rate exists; the paper shows why."""

    def __init__(self, paper):
        self.paper = paper


class NothingToUndo(LookupError):
    """There are not so many groups of edits to take back, or to make again."""

    def __init__(self, many):
        self.many = many


class Broken(RuntimeError):
    """A promise that would be left broken; its first name."""

    def __init__(self, name):
        self.name = name
