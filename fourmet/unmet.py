"""Which partings of a book's names its lists meet, and how often."""

from fourmet.books import Book
from fourmet.fourpart import all_partings, held_parting, meets_all, parted_names, require_parting_of, sizes
from fourmet.names import MOST_TREES, check_number
from fourmet.sets import part_out


def met_at(book, lots):
    """Return the indexes of the lists that meet a parting of the book's names, ascending."""
    return tuple([at for at, names in enumerate(book.lists) if meets_all(names, lots)])


def counted(book):
    """Return the partings of the book's names, ascending, each behind its times."""
    return [(len(met_at(book, lots)), lots) for lots in all_partings(book.names)]


def meeting_lists(book, parting):
    """Return the indexes of the lists that meet the parting, ascending."""
    lots = held_parting(parting)
    require_parting_of(lots, book.names)
    return met_at(book, lots)


def unmet_partings(book, *, most=MOST_TREES):
    """Return the first unmet partings, ascending, no more than most of them."""
    check_number(most, 0, MOST_TREES)
    unmet = [lots for times, lots in counted(book) if times == 0]
    return tuple(unmet[:most])


def met_counts(book):
    """Return the numbers of partings, at their times."""
    row = [0] * (len(book) + 1)
    for times, _ in counted(book):
        row[times] += 1
    return tuple(row)


def least_met(book):
    """Return the strength and the first parting that has it as its times; None if there is no parting."""
    rows = counted(book)
    if rows:
        return min(rows)
    return None


def strength(book):
    """Return the strength of the book, or None."""
    found = least_met(book)
    if found is None:
        return None
    return found[0]


def least_by_kind(book):
    """Return the least times of the partings of each kind, ascending by the kinds."""
    least = {}
    for times, lots in counted(book):
        shape = sizes(lots)
        least[shape] = min(times, least.get(shape, times))
    return tuple([(shape, least[shape]) for shape in sorted(least)])


def sparing_book(parting):
    """Return the book in which the parting alone is unmet: its lists are the names outside of each lot."""
    lots = held_parting(parting)
    names = parted_names(lots)
    return Book(names, [part_out(names, lot) for lot in lots])
