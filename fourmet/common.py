"""Names that stand in each list of a book, and what the threes of the other names tell then."""

from fourmet.arguments import fixed_names, has_index, require_known, require_name
from fourmet.books import Book
from fourmet.errors import NotInAll, WrongCount
from fourmet.fourpart import LOTS
from fourmet.fours import THREE
from fourmet.names import name_tuple
from fourmet.sets import is_inside, merged, part_out, subsets

ROOTED = "rooted"


def is_common(book, name):
    """Tell whether the name stands in each list of the book."""
    return all([name in row for row in book.lists])


def names_in_all(book):
    """Return the common names of the book."""
    return tuple([name for name in book.names if is_common(book, name)])


def require_common(book, root):
    """Raise an error if the root is not a common name of the book."""
    require_name(root, book.names)
    for at, row in enumerate(book.lists):
        if root not in row:
            raise NotInAll(at)


def other_threes(book, root):
    """Return all threes of the names of the book other than the root, ascending."""
    return subsets(part_out(book.names, (root,)), THREE)


def three_lists(book, three):
    """Return the indexes of the lists that hold the three, ascending."""
    return [at for at, row in enumerate(book.lists) if is_inside(three, row)]


def triple_counts(book, root):
    """Return each three of the names other than the root with its count, ascending by the threes."""
    require_common(book, root)
    return tuple([(three, len(three_lists(book, three))) for three in other_threes(book, root)])


def weakest_triple(book, root):
    """Return the least count and the first three that has it; None if there is no three."""
    rows = [(count, three) for three, count in triple_counts(book, root)]
    if rows:
        return min(rows)
    return None


def strength_by_root(book, root):
    """Return the strength of the book, or None, by the counts."""
    found = weakest_triple(book, root)
    if found is None:
        return None
    return found[0]


def single_parting(names, three):
    """Return the parting of the three single names and all other names."""
    held = name_tuple(names)
    single = fixed_names(three, THREE)
    require_known(single, held)
    if len(held) < LOTS:
        raise WrongCount(len(held))
    return tuple(sorted([(name,) for name in single] + [part_out(held, single)]))


def with_root(book, root):
    """Return the book in which the root is added to every list that lacks it."""
    require_name(root, book.names)
    return Book(book.names, [merged(row, (root,)) for row in book.lists])


def root_paper(book, root):
    """Return the root paper with the least indexes; None if some three stands in no list."""
    require_common(book, root)
    rows = [three_lists(book, three) for three in other_threes(book, root)]
    if [] in rows:
        return None
    return (ROOTED, root, tuple([row[0] for row in rows]))


def is_root_paper(book, paper):
    """Tell whether the paper is a root paper that is right for the book."""
    if paper[0] != ROOTED:
        return False
    _, root, indexes = paper
    if root not in book.names or not is_common(book, root):
        return False
    threes = other_threes(book, root)
    if len(indexes) != len(threes):
        return False
    return all([has_index(book, at) and is_inside(three, book.lists[at]) for at, three in zip(indexes, threes)])


def root_lists(book, root):
    """Return the root with each three that stands in no list, ascending by the threes."""
    return tuple([merged(three, (root,)) for three, count in triple_counts(book, root) if count == 0])
