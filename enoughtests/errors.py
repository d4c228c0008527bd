"""The exceptions. Each one keeps the very values that it is created with."""


class SorterError(ValueError):
    """What all exceptions of this package have in common."""


class InvalidSize(SorterError):
    """A value that is not a size."""

    def __init__(self, value):
        self.value = value


class InvalidWord(SorterError):
    """A value that is not a word."""

    def __init__(self, value):
        self.value = value


class InvalidRow(SorterError):
    """A value that is not a row, or not one of the kind that is asked for."""

    def __init__(self, value):
        self.value = value


class InvalidChain(SorterError):
    """A value that is not a chain of words."""

    def __init__(self, value):
        self.value = value


class InvalidPairs(SorterError):
    """A value that is not a list of pairs."""

    def __init__(self, value):
        self.value = value


class InvalidPair(SorterError):
    """A value that is not a pair of two different lines."""

    def __init__(self, value):
        self.value = value


class Ring(SorterError):
    """Pairs with which some lines can be reached from themselves."""

    def __init__(self, lines):
        self.lines = lines


class NotOrder(SorterError):
    """A value that is not an Order."""

    def __init__(self, value):
        self.value = value


class NotFitting(SorterError):
    """A word or a row that does not fit what is known."""

    def __init__(self, value):
        self.value = value


class InvalidSteps(SorterError):
    """A value that is not a list of steps."""

    def __init__(self, value):
        self.value = value


class InvalidStep(SorterError):
    """A value that is not a step."""

    def __init__(self, value):
        self.value = value


class InvalidLine(SorterError):
    """A value that is not a line."""

    def __init__(self, value):
        self.value = value


class InvalidLines(SorterError):
    """A value that is not a list of the lines that are asked for."""

    def __init__(self, value):
        self.value = value


class NotNetwork(SorterError):
    """A value that is not a Network."""

    def __init__(self, value):
        self.value = value


class NoStep(SorterError):
    """A value that is not the index of a step."""

    def __init__(self, index):
        self.index = index


class InvalidFirst(SorterError):
    """A value that is not a number of first items."""

    def __init__(self, value):
        self.value = value


class InvalidRank(SorterError):
    """A value that is not a rank."""

    def __init__(self, value):
        self.value = value


class SortedWord(SorterError):
    """A sorted word where one is asked for that is not sorted."""

    def __init__(self, word):
        self.word = word


class InvalidTests(SorterError):
    """A value that is not a list of tests."""

    def __init__(self, value):
        self.value = value


class UnlikeSizes(SorterError):
    """Two things of different sizes."""

    def __init__(self, sizes):
        self.sizes = sizes


class TooLarge(SorterError):
    """A size or a number that is too large for what is asked."""

    def __init__(self, value):
        self.value = value


class InvalidShape(SorterError):
    """A value that is not the shape of a word."""

    def __init__(self, value):
        self.value = value


class InvalidNumber(SorterError):
    """A value that is not the number of a shape."""

    def __init__(self, value):
        self.value = value


class InvalidSizes(SorterError):
    """A value that is not a list of sizes of parts."""

    def __init__(self, value):
        self.value = value


class InvalidText(SorterError):
    """A value that is not the text of a network."""

    def __init__(self, value):
        self.value = value


class InvalidName(SorterError):
    """A value that is not a name."""

    def __init__(self, value):
        self.value = value


class NameTaken(SorterError):
    """A name that a thing has already."""

    def __init__(self, name):
        self.name = name


class UnknownName(SorterError):
    """A value that is not the name of a thing."""

    def __init__(self, name):
        self.name = name


class InvalidThing(SorterError):
    """A value that a bench cannot keep."""

    def __init__(self, value):
        self.value = value


class WrongKind(SorterError):
    """The name of a thing of another kind than is asked for."""

    def __init__(self, name):
        self.name = name


class NothingToUndo(SorterError):
    """There is no deed that could be taken back."""


class InvalidLineOfText(SorterError):
    """A value that is not a line that a console executes."""

    def __init__(self, value):
        self.value = value
