"""Lists that a book lacks, and lists that it could do without."""

from fourmet.arguments import require_few, require_known
from fourmet.errors import TooMany
from fourmet.fourpart import all_partings, meets_all
from fourmet.names import GROWN_NAMES, MOST_LISTS, check_number, name_tuple
from fourmet.sets import subsets
from fourmet.unmet import counted, strength

# All choices of the candidates are gone through.
MOST_CANDIDATES = 6


def fill(book):
    """Return lists that make the book tell all trees."""
    require_few(book.names, GROWN_NAMES)
    found = []
    for lots in all_partings(book.names):
        if not any([meets_all(row, lots) for row in list(book.lists) + found]):
            found.append(tuple([lot[0] for lot in lots]))
    return tuple(found)


def fewest_lists(book, candidates, *, need=1):
    """Return the indexes of the fewest candidates with which each parting is met need times; None if none do."""
    rows = [name_tuple(names) for names in candidates]
    if len(rows) > MOST_CANDIDATES:
        raise TooMany(MOST_CANDIDATES)
    check_number(need, 0, MOST_LISTS)
    for row in rows:
        require_known(row, book.names)
    require_few(book.names, GROWN_NAMES)
    wants = [(need - times, meeting_rows(rows, lots)) for times, lots in counted(book)]
    for size in range(len(rows) + 1):
        for choice in subsets(list(range(len(rows))), size):
            if are_met(wants, choice):
                return choice
    return None


def meeting_rows(rows, lots):
    """Return the indexes of the rows that meet the parting."""
    return [at for at, row in enumerate(rows) if meets_all(row, lots)]


def are_met(wants, choice):
    """Tell whether the choice has enough of the indexes of each want."""
    return all([len([at for at in choice if at in found]) >= number for number, found in wants])


def needless_lists(book):
    """Return the indexes of the lists without which, each alone, the strength is the same."""
    require_few(book.names, GROWN_NAMES)
    whole = strength(book)
    return tuple([at for at in range(len(book)) if strength(book.without_lists((at,))) == whole])


def core(book):
    """Return the indexes of the lists that stay if, from the last to the first, needless ones are left out."""
    require_few(book.names, GROWN_NAMES)
    whole = strength(book)
    away = []
    for at in reversed(range(len(book))):
        if strength(book.without_lists(away + [at])) == whole:
            away.append(at)
    return tuple([at for at in range(len(book)) if at not in away])
