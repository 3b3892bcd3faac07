"""Cuts of trees to some of their names, and tellings of books."""

from fourmet.arguments import require_known, require_like, require_name
from fourmet.errors import BadTelling
from fourmet.names import name_tuple
from fourmet.sets import part_in, part_out
from fourmet.trees import Tree, divides, turned


def cut_splits(tree, names):
    """Return the splits of the cut of the tree to a name tuple of some of its names."""
    sides = [part_in(side, names) for side in tree.splits]
    return tuple(sorted({turned(names, side) for side in sides if divides(names, side)}))


def cut(tree, names):
    """Return the cut of the tree to a name tuple of some of its names."""
    return Tree(names, cut_splits(tree, names))


def are_alike(one, two, names):
    """Tell whether the two trees are alike on a name tuple of names that both have."""
    return cut_splits(one, names) == cut_splits(two, names)


def cut_down(tree, names):
    """Return the cut of the tree to the names."""
    held = name_tuple(names)
    require_known(held, tree.names)
    return cut(tree, held)


def strike(tree, name):
    """Return the tree with the name struck."""
    require_name(name, tree.names)
    return cut(tree, part_out(tree.names, (name,)))


def alike(one, two, names):
    """Tell whether the two trees are alike on the names."""
    held = name_tuple(names)
    require_known(held, part_in(one.names, two.names))
    return are_alike(one, two, held)


def alike_on(one, two, book):
    """Tell whether the two trees are alike on the book."""
    require_like(one.names, two.names)
    require_like(one.names, book.names)
    return all([are_alike(one, two, names) for names in book.lists])


def true_telling(tree, book):
    """Return the cuts of the tree to the lists of the book."""
    require_like(tree.names, book.names)
    return tuple([cut(tree, names) for names in book.lists])


def require_telling(book, trees):
    """Raise an error if the trees are no telling of the book."""
    for at, (names, tree) in enumerate(zip(book.lists, trees)):
        if tree.names != names:
            raise BadTelling(at)
    if len(trees) != len(book):
        raise BadTelling(min(len(trees), len(book)))


def is_telling(book, trees):
    """Tell whether the trees are a telling of the book."""
    return [tree.names for tree in trees] == list(book.lists)
