"""Finding the tree again from what is told, though some lists lie."""

from fourmet.arguments import require_name
from fourmet.attach import all_trees
from fourmet.common import other_threes, require_common, three_lists
from fourmet.cutdown import require_telling
from fourmet.errors import NoTree, SeveralTrees
from fourmet.fours import PAIR, against, from_entries
from fourmet.lies import lying_at, lying_lists
from fourmet.names import MOST_LISTS, check_number
from fourmet.sets import subsets


def misses(book, trees, tree):
    """Return the number of lists that lie about the tree."""
    return len(lying_lists(book, trees, tree))


def all_misses(book, trees):
    """Return all trees on the book's names in their order, each behind its misses."""
    require_telling(book, trees)
    return [(len(lying_at(book, trees, tree)), tree) for tree in all_trees(book.names)]


def nearest(book, trees):
    """Return the least misses of all trees, and the trees that have it, in their order."""
    rows = all_misses(book, trees)
    least = min([row[0] for row in rows])
    return (least, tuple([tree for number, tree in rows if number == least]))


def mend(book, trees, *, lying=0):
    """Return the only tree with at most so many misses."""
    check_number(lying, 0, MOST_LISTS)
    found = [tree for number, tree in all_misses(book, trees) if number <= lying]
    if not found:
        raise NoTree()
    if len(found) > 1:
        raise SeveralTrees()
    return found[0]


def candidates(three):
    """Return what can be voted for: None, and the three pairs of the three."""
    return (None,) + subsets(three, PAIR)


def votes_for(book, trees, root, three):
    """Return the numbers of votes for the candidates of a three."""
    cast = [against(trees[at], root, three) for at in three_lists(book, three)]
    return tuple([cast.count(candidate) for candidate in candidates(three)])


def vote_counts(book, trees, root):
    """Return each three of the names other than the root with its votes, ascending by the threes."""
    require_name(root, book.names)
    require_telling(book, trees)
    require_common(book, root)
    return tuple([(three, votes_for(book, trees, root, three)) for three in other_threes(book, root)])


def winner(three, votes):
    """Return the earliest of the candidates with the most votes."""
    return candidates(three)[votes.index(max(votes))]


def mend_by_votes(book, trees, root):
    """Return the tree whose rooted pairs are the winners."""
    entries = [(three, winner(three, votes)) for three, votes in vote_counts(book, trees, root)]
    return from_entries(book.names, root, entries)
