"""Whether a book still tells all trees if lists are lost or lie, and papers about losses."""

from fourmet.arguments import has_index, require_few
from fourmet.fourpart import is_parting_of
from fourmet.names import GROWN_NAMES, MOST_LISTS, check_number
from fourmet.sets import is_inside, subsets
from fourmet.tellsall import tells_all
from fourmet.unmet import least_met, met_at, strength

LOSS = "loss"
# Leaving out more lists than this in all ways would take long.
MOST_LEFT_OUT = 2


def bears(book, *, lost=0, lying=0):
    """Tell whether the book tells all trees though so many lists are lost and so many lie."""
    check_number(lost, 0, MOST_LISTS)
    check_number(lying, 0, MOST_LISTS)
    return is_enough(strength(book), lost, lying)


def is_enough(number, lost, lying):
    """Tell whether a strength, or None, is enough for so many lists that are lost and so many that lie."""
    return number is None or number >= lost + 2 * lying + 1


def bears_by_losing(book, *, lost=1):
    """Tell whether the book tells all trees though so many lists are lost, by leaving them out in all ways."""
    check_number(lost, 0, MOST_LEFT_OUT)
    require_few(book.names, GROWN_NAMES)
    choices = subsets(list(range(len(book))), min(lost, len(book)))
    return all([tells_all(book.without_lists(indexes)) for indexes in choices])


def fatal_loss(book):
    """Return the loss of all lists that meet the first of the least met partings; None if there is no parting."""
    found = least_met(book)
    if found is None:
        return None
    _, lots = found
    return (LOSS, met_at(book, lots), lots)


def is_fatal(book, paper, *, lost):
    """Tell whether the paper is a loss of the book with at most so many indexes."""
    check_number(lost, 0, MOST_LISTS)
    if paper[0] != LOSS:
        return False
    _, indexes, lots = paper
    if len(indexes) > lost or not are_different(book, indexes):
        return False
    return is_parting_of(lots, book.names) and is_inside(met_at(book, lots), indexes)


def are_different(book, indexes):
    """Tell whether these are different indexes of lists of the book."""
    return len(set(indexes)) == len(indexes) and all([has_index(book, at) for at in indexes])
