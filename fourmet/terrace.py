"""The trees that fit what is told, and the trees that are alike with a tree on a book."""

from fourmet.arguments import require_few, require_name
from fourmet.attach import all_trees
from fourmet.common import other_threes, require_common, three_lists
from fourmet.cutdown import cut_splits, require_telling, true_telling
from fourmet.errors import NoTree, Untold
from fourmet.fours import FOUR, against, from_entries, said
from fourmet.names import MOST_TREES, PARTED_NAMES, check_number
from fourmet.sets import part_in, subsets
from fourmet.trees import Tree


def is_fitting(book, trees, tree):
    """Tell whether a tree on the book's names fits a telling."""
    return all([cut_splits(tree, names) == told.splits for names, told in zip(book.lists, trees)])


def all_fitting(book, trees):
    """Return all trees that fit the telling, in their order."""
    require_telling(book, trees)
    return [tree for tree in all_trees(book.names) if is_fitting(book, trees, tree)]


def fitting(book, trees, *, most=MOST_TREES):
    """Return the first trees that fit the telling, in their order, no more than most of them."""
    check_number(most, 0, MOST_TREES)
    return tuple(all_fitting(book, trees)[:most])


def fit(book, trees):
    """Return whether no tree fits the telling, or one, or several, with the first two of these."""
    found = all_fitting(book, trees)
    if not found:
        return ("none",)
    if len(found) == 1:
        return ("one", found[0])
    return ("several", found[0], found[1])


def whole_terrace(book, tree):
    """Return the terrace of the tree, in the order of the trees."""
    return all_fitting(book, true_telling(tree, book))


def terrace(book, tree, *, most=MOST_TREES):
    """Return the first trees of the terrace of the tree, in their order, no more than most of them."""
    check_number(most, 0, MOST_TREES)
    return tuple(whole_terrace(book, tree)[:most])


def is_alone(book, tree):
    """Tell whether no other tree is alike with the tree on the book."""
    return len(whole_terrace(book, tree)) == 1


def sure_tree(book, tree):
    """Return the tree of the splits that all trees of the terrace have."""
    found = whole_terrace(book, tree)
    return Tree(book.names, [side for side in tree.splits if all([side in other.splits for other in found])])


def conflict(book, trees):
    """Return the first conflict of the telling; None if there is none."""
    require_telling(book, trees)
    require_few(book.names, PARTED_NAMES)
    for first, second in subsets(list(range(len(book))), 2):
        for four in subsets(part_in(book.lists[first], book.lists[second]), FOUR):
            if said(trees[first], four) != said(trees[second], four):
                return (first, second, four)
    return None


def told_entry(book, trees, root, three):
    """Return the entry of a three as the first list that holds it tells it."""
    found = three_lists(book, three)
    if not found:
        raise Untold(three)
    return (three, against(trees[found[0]], root, three))


def fit_by_root(book, trees, root):
    """Return the only tree that fits the telling, by the rooted pairs for a common root."""
    require_name(root, book.names)
    require_telling(book, trees)
    require_common(book, root)
    entries = [told_entry(book, trees, root, three) for three in other_threes(book, root)]
    tree = from_entries(book.names, root, entries)
    if not is_fitting(book, trees, tree):
        raise NoTree()
    return tree
