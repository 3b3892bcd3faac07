"""Lists that lie about a tree, and papers that show two trees which cannot be told apart."""

from fourmet.arguments import check_indexes, require_like
from fourmet.bothtrees import both_trees
from fourmet.cutdown import cut, cut_splits, is_telling, require_telling, true_telling
from fourmet.errors import BadTelling
from fourmet.losses import are_different, is_enough
from fourmet.names import MOST_LISTS, check_number
from fourmet.unmet import least_met, met_at

CONFUSED = "confused"


def lying_at(book, trees, tree):
    """Return the indexes of the lists that lie about a tree on the book's names in a telling, ascending."""
    return tuple([at for at, names in enumerate(book.lists) if cut_splits(tree, names) != trees[at].splits])


def lying_lists(book, trees, tree):
    """Return the indexes of the lists that lie about the tree, ascending."""
    require_like(tree.names, book.names)
    require_telling(book, trees)
    return lying_at(book, trees, tree)


def told_with_lies(book, tree, lies):
    """Return the true telling of the tree, changed by the lies."""
    check_indexes([index for index, _ in lies], len(book))
    told = list(true_telling(tree, book))
    for index, other in lies:
        if other.names != book.lists[index]:
            raise BadTelling(index)
        told[index] = other
    return tuple(told)


def shared_out(meeting, lost):
    """Return the indexes of the lists that are lost, and of those that tell the first of two trees.

    The lists that meet what parts the two trees are shared out; all others may tell either tree.
    """
    left = meeting[lost:]
    return (meeting[:lost], left[:len(left) // 2])


def confusion(book, *, lost=0, lying=0):
    """Return a confusion; None if the book bears so many lost lists and so many that lie."""
    check_number(lost, 0, MOST_LISTS)
    check_number(lying, 0, MOST_LISTS)
    found = least_met(book)
    if found is None or is_enough(found[0], lost, lying):
        return None
    _, lots = found
    first, second = both_trees(lots)
    indexes, firsts = shared_out(met_at(book, lots), lost)
    rows = [(at, names) for at, names in enumerate(book.lists) if at not in indexes]
    trees = [cut(first if at in firsts else second, names) for at, names in rows]
    return (CONFUSED, indexes, first, second, tuple(trees))


def is_confusion(book, paper, *, lost=0, lying=0):
    """Tell whether the paper is a confusion for the book and these numbers."""
    check_number(lost, 0, MOST_LISTS)
    check_number(lying, 0, MOST_LISTS)
    if paper[0] != CONFUSED:
        return False
    _, indexes, first, second, trees = paper
    if len(indexes) > lost or not are_different(book, indexes):
        return False
    if first.names != book.names or second.names != book.names or first == second:
        return False
    left = book.without_lists(indexes)
    if not is_telling(left, trees):
        return False
    return all([len(lying_at(left, trees, tree)) <= lying for tree in (first, second)])
