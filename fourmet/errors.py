"""The errors that the program raises on purpose."""


class FourmetError(ValueError):
    """The base of all errors of the program; it is never raised itself."""


class BadName(FourmetError):
    """A value that should be a name is none."""

    def __init__(self, name):
        self.name = name


class RepeatedName(FourmetError):
    """A name stands twice where it may stand once."""

    def __init__(self, name):
        self.name = name


class UnknownName(FourmetError):
    """A name is not one of the names that are asked about."""

    def __init__(self, name):
        self.name = name


class TooMany(FourmetError):
    """A bound is exceeded."""

    def __init__(self, most):
        self.most = most


class WrongCount(FourmetError):
    """There are not as many items as there should be."""

    def __init__(self, number):
        self.number = number


class BadNumber(FourmetError):
    """A value that should be a number is none, or is out of its range."""

    def __init__(self, number):
        self.number = number


class BadSplit(FourmetError):
    """A set of names is not a side of such a split."""

    def __init__(self, side):
        self.side = side


class Clash(FourmetError):
    """Two splits cross."""

    def __init__(self, first, second):
        self.first = first
        self.second = second


class BadText(FourmetError):
    """A tree text does not follow the grammar."""

    def __init__(self, at):
        self.at = at


class BadLine(FourmetError):
    """A line of a book text does not have its form."""

    def __init__(self, at):
        self.at = at


class BadTelling(FourmetError):
    """A sequence of trees is no telling of the book."""

    def __init__(self, at):
        self.at = at


class NotInAll(FourmetError):
    """A list lacks the root."""

    def __init__(self, at):
        self.at = at


class NotAlike(FourmetError):
    """Two trees are not alike on a list."""

    def __init__(self, at):
        self.at = at


class Untold(FourmetError):
    """Three names stand together in no list."""

    def __init__(self, three):
        self.three = three


class BadPlaces(FourmetError):
    """There is no tree with these places."""


class BadSpot(FourmetError):
    """There is no such spot on the tree."""


class BadParting(FourmetError):
    """These lots are no parting, or no parting of these names."""


class BadPaper(FourmetError):
    """A paper text does not have its form."""


class UnlikeNames(FourmetError):
    """Things that should have the same names do not."""


class SameTree(FourmetError):
    """Two trees that should be unlike are equal."""


class NoTree(FourmetError):
    """There is no such tree."""


class SeveralTrees(FourmetError):
    """There is more than one such tree."""
