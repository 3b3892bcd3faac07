"""Whether a book tells all trees, and papers that say so."""

from fourmet.arguments import has_index
from fourmet.attach import all_trees
from fourmet.bothtrees import both_trees, is_alike_pair
from fourmet.cutdown import true_telling
from fourmet.fourpart import all_partings, is_parting_of, meets_all
from fourmet.unmet import met_at, unmet_partings

TELLS = "tells"
FAILS = "fails"


def tells_all(book):
    """Tell whether the book tells all trees, by the partings."""
    return unmet_partings(book, most=1) == ()


def tells_by_trees(book):
    """Tell whether the book tells all trees, by the true tellings of all trees."""
    trees = all_trees(book.names)
    # Trees are no members of a set, but the names of each list are known, so their splits will do.
    return len({tuple([told.splits for told in true_telling(tree, book)]) for tree in trees}) == len(trees)


def verdict(book):
    """Return a verdict on the book."""
    unmet = unmet_partings(book, most=1)
    if unmet:
        first, second = both_trees(unmet[0])
        return (FAILS, unmet[0], first, second)
    return (TELLS, tuple([met_at(book, lots)[0] for lots in all_partings(book.names)]))


def is_verdict(book, paper):
    """Tell whether the paper is a verdict that is right for the book."""
    if paper[0] == TELLS:
        return are_meeting(book, paper[1])
    if paper[0] == FAILS:
        _, lots, first, second = paper
        return is_unmet(book, lots) and is_alike_pair(book, first, second)
    return False


def are_meeting(book, indexes):
    """Tell whether the indexes are those of lists that meet the partings of the book's names, one for each."""
    partings = all_partings(book.names)
    if len(indexes) != len(partings):
        return False
    return all([has_index(book, at) and meets_all(book.lists[at], lots) for at, lots in zip(indexes, partings)])


def is_unmet(book, lots):
    """Tell whether the lots are a parting of the book's names that no list meets."""
    return is_parting_of(lots, book.names) and met_at(book, lots) == ()
