"""Books as tables, what a list is short of to meet a parting, and the groves that lists connect."""

from fourmet.arguments import require_few, require_known
from fourmet.books import Book
from fourmet.common import three_lists
from fourmet.cutdown import require_telling
from fourmet.errors import NoTree, RepeatedName, TooMany, WrongCount
from fourmet.fourpart import LOTS, held_parting, meets_all, require_parting_of
from fourmet.fours import THREE
from fourmet.names import GROWN_NAMES, MOST_LISTS, MOST_TREES, check_name, check_number, name_tuple
from fourmet.sets import grouped, is_inside, merged, part_in, part_out, subsets
from fourmet.terrace import fitting
from fourmet.trees import Tree
from fourmet.unmet import counted

# More entries would take long, as each one is found among all entries.
MOST_ENTRIES = 6


def table(book):
    """Return the table of the book: a row for each name, in it 1 for each list that holds the name, otherwise 0."""
    return tuple([tuple([1 if name in row else 0 for row in book.lists]) for name in book.names])


def from_table(names, rows):
    """Return the book with this table."""
    held = name_tuple(names)
    for row in rows:
        for number in row:
            check_number(number, 0, 1)
    if rows and len(rows[0]) > MOST_LISTS:
        raise TooMany(MOST_LISTS)
    if len(rows) != len(held):
        raise WrongCount(len(rows))
    for row in rows:
        if len(row) != len(rows[0]):
            raise WrongCount(len(row))
    many = len(rows[0]) if rows else 0
    return Book(held, [[name for name, row in zip(held, rows) if row[at] == 1] for at in range(many)])


def times_table(book):
    """Return all partings of the book's names with their times, ascending."""
    return tuple([(lots, times) for times, lots in counted(book)])


def weakest_first(book, *, most=MOST_TREES):
    """Return the partings, each behind its times, ascending by these, no more than most of them."""
    check_number(most, 0, MOST_TREES)
    return tuple(sorted(counted(book))[:most])


def touches(row, lots):
    """Return the number of the lots in which the list has a name."""
    return len([lot for lot in lots if part_in(lot, row)])


def touched(book, parting):
    """Return the numbers of lots that the lists touch, list by list."""
    lots = held_parting(parting)
    require_parting_of(lots, book.names)
    return tuple([touches(row, lots) for row in book.lists])


def shortfall(book, parting):
    """Return how many names some list lacks at least to meet the parting; None if there is no list."""
    found = touched(book, parting)
    if found:
        return LOTS - max(found)
    return None


def unmet_lots(book):
    """Return the unmet partings of the book, ascending."""
    return [lots for times, lots in counted(book) if times == 0]


def met_with(row, name, unmet):
    """Return the partings, of these that the list does not meet, that it meets with the name."""
    wide = merged(row, (name,))
    return [lots for lots in unmet if meets_all(wide, lots)]


def mended_by(book, index, name):
    """Return the partings, unmet before, that the list meets with the name, ascending."""
    check_number(index, 0, len(book) - 1)
    check_name(name)
    require_known((name,), book.names)
    if name in book.lists[index]:
        raise RepeatedName(name)
    return tuple(met_with(book.lists[index], name, unmet_lots(book)))


def entries_of(book):
    """Return all entries of the book, ascending."""
    return [(index, name) for index, row in enumerate(book.lists) for name in part_out(book.names, row)]


def entry_gains(book):
    """Return all entries behind their gains, the greatest gain first."""
    require_few(book.names, GROWN_NAMES)
    unmet = unmet_lots(book)
    rows = [(-len(met_with(book.lists[index], name, unmet)), index, name) for index, name in entries_of(book)]
    return tuple([(-loss, index, name) for loss, index, name in sorted(rows)])


def with_entry(book, index, name):
    """Return the book in which the name is put on the list."""
    return Book(book.names, [merged(row, (name,)) if at == index else row for at, row in enumerate(book.lists)])


def mend_entries(book, *, most=3):
    """Return the entries that are made while they gain, each the first one of its time, and the book after them."""
    check_number(most, 0, MOST_ENTRIES)
    require_few(book.names, GROWN_NAMES)
    entries = []
    after = book
    for _ in range(most):
        gains = [row for row in entry_gains(after) if row[0] > 0]
        if not gains:
            break
        index, name = gains[0][1:]
        entries.append((index, name))
        after = with_entry(after, index, name)
    return (tuple(entries), after)


def three_bound(book):
    """Return the least count of all threes; None for fewer than four names."""
    if len(book.names) < LOTS:
        return None
    return min([len(three_lists(book, three)) for three in subsets(book.names, THREE)])


def groves(book):
    """Return the groves of the book, ascending."""
    return grouped([(name,) for name in book.names], [book.lists[at] for at in book.useful])


def grove_parting(book):
    """Return an unmet parting made of the first grove and all other names; None for one grove, or too few names."""
    found = groves(book)
    if len(book.names) < LOTS or len(found) < 2:
        return None
    rest = part_out(book.names, found[0])
    short, long = sorted([found[0], rest], key=len)
    if len(short) == 1:
        lots = [short, long[:1], long[1:2], long[2:]]
    else:
        lots = [short[:1], short[1:], long[:1], long[1:]]
    return tuple(sorted(lots))


def join_trees(trees):
    """Return the joined tree."""
    # As the names stand in order here, the first name that the new tree finds twice is the least one.
    names = sorted([name for tree in trees for name in tree.names])
    return Tree(names, [side for tree in trees for side in tree.splits])


def fit_by_groves(book, trees):
    """Return a tree that fits the telling, the joined one of the first trees that fit on the groves."""
    require_telling(book, trees)
    found = groves(book)
    for grove in found:
        require_few(grove, GROWN_NAMES)
    fits = [fitting_part(book, trees, grove) for grove in found]
    return join_trees(fits)


def fitting_part(book, trees, grove):
    """Return the first tree on a grove that fits its part of the telling."""
    inside = [at for at in book.useful if is_inside(book.lists[at], grove)]
    part = Book(grove, [book.lists[at] for at in inside])
    found = fitting(part, [trees[at] for at in inside], most=1)
    if not found:
        raise NoTree()
    return found[0]
