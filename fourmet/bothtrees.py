"""Trees made from partings, and unlike trees that are alike on a book."""

from fourmet.arguments import check_optional
from fourmet.cutdown import alike_on
from fourmet.fourpart import LOTS, held_parting, parted_names
from fourmet.trees import Tree, divides
from fourmet.unmet import least_met, unmet_partings


def lot_tree(parting, *, beside=None):
    """Return the lot tree of the parting, in which the lot at this index, if not None, stands with the first one."""
    lots = held_parting(parting)
    check_optional(beside, 1, LOTS - 1)
    names = parted_names(lots)
    sides = [lot for lot in lots if divides(names, lot)]
    if beside is not None:
        sides = sides + [lots[0] + lots[beside]]
    return Tree(names, sides)


def both_trees(parting):
    """Return the both trees of the parting."""
    return (lot_tree(parting, beside=1), lot_tree(parting, beside=2))


def closest_pair(book):
    """Return the strength of the book and two trees that have it as their distance; None if there is no parting."""
    found = least_met(book)
    if found is None:
        return None
    number, parting = found
    first, second = both_trees(parting)
    return (number, first, second)


def is_alike_pair(book, one, two):
    """Tell whether these are two unlike trees on the book's names that are alike on the book."""
    if one.names != book.names or two.names != book.names or one == two:
        return False
    return alike_on(one, two, book)


def alike_pair(book):
    """Return the both trees of the first unmet parting; None if no parting is unmet."""
    unmet = unmet_partings(book, most=1)
    if unmet:
        return both_trees(unmet[0])
    return None
