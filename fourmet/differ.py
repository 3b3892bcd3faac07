"""Where two trees differ, and which fours the lists of a book tell."""

from fourmet.arguments import require_like
from fourmet.cutdown import are_alike
from fourmet.errors import WrongCount
from fourmet.fours import FOUR, said
from fourmet.sets import is_inside, part_out, subsets


def unlike_fours(one, two):
    """Return the fours of which the two trees do not say the same, ascending."""
    require_like(one.names, two.names)
    return tuple([four for four in subsets(one.names, FOUR) if said(one, four) != said(two, four)])


def unlike_splits(one, two):
    """Return the near sides that the first tree alone has, and those that the second alone has."""
    require_like(one.names, two.names)
    return (part_out(one.splits, two.splits), part_out(two.splits, one.splits))


def unlike_lists(book, one, two):
    """Return the indexes of the lists on which the two trees are not alike, ascending."""
    require_like(book.names, one.names)
    require_like(book.names, two.names)
    return tuple([at for at, names in enumerate(book.lists) if not are_alike(one, two, names)])


def distance(book, one, two):
    """Return the number of lists on which the two trees are not alike."""
    return len(unlike_lists(book, one, two))


def told_distance(trees, others):
    """Return the number of indexes at which the two trees are unlike."""
    if len(trees) != len(others):
        raise WrongCount(len(others))
    return len([at for at, tree in enumerate(trees) if tree != others[at]])


def is_together(names, book):
    """Tell whether the names stand together in a list of the book."""
    return any([is_inside(names, row) for row in book.lists])


def fours_in_lists(book):
    """Return the fours that stand together in a list, ascending."""
    return tuple([four for four in subsets(book.names, FOUR) if is_together(four, book)])


def open_fours(book):
    """Return the fours of the book's names that stand together in no list, ascending."""
    return tuple([four for four in subsets(book.names, FOUR) if not is_together(four, book)])
