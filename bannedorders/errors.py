"""The errors: one class for each kind of failure, each with the value that is at fault."""


class OrderError(ValueError):
    """What all errors of the program are."""

    def __init__(self, value):
        self.value = value


class InvalidOrder(OrderError):
    """What is told is no order, or not one that can stand there."""


class InvalidPattern(OrderError):
    """What is told is no pattern."""


class InvalidList(OrderError):
    """What is told is no list of patterns."""


class InvalidForm(OrderError):
    """What is told is no form."""


class InvalidLetter(OrderError):
    """What is told is no letter, or none that the form takes."""


class InvalidWord(OrderError):
    """What is told is no word, or not one that can stand there."""


class InvalidKind(OrderError):
    """What is told is no kind of alternation."""


class InvalidNumber(OrderError):
    """What is told is no integer, or not one that can stand there."""


class InvalidPair(OrderError):
    """Two things that are told do not go together, or a tree is none."""


class InvalidMachine(OrderError):
    """What is told is no machine."""


class NoMachine(OrderError):
    """A list has no machine: it does not stop the kind that is held."""


class InvalidTape(OrderError):
    """What is told is no tape."""


class InvalidSorter(OrderError):
    """What is told is no sorter."""


class InvalidSaying(OrderError):
    """What is told is no saying."""


class InvalidName(OrderError):
    """What is told is no name."""


class NotLet(OrderError):
    """A list does not let the order that is held."""


class UnknownName(OrderError):
    """No list has the name that is held."""


class NothingToUndo(OrderError):
    """There is nothing to take back."""


class Unreadable(OrderError):
    """A text cannot be read: the line that is held cannot stand there."""


class Unorderly(OrderError):
    """The text that is held orders nothing that a console does."""
