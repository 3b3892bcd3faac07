"""Pairs of names, the blocks of the other names, and the partings in which the two are lots alone."""

from fourmet.arguments import require_few, require_two
from fourmet.fourpart import LOTS
from fourmet.fours import PAIR
from fourmet.names import GROWN_NAMES
from fourmet.sets import grouped, part_in, part_out, subsets


def both_at(book, one, two):
    """Return the indexes of the lists that hold both names, ascending."""
    return tuple([at for at, row in enumerate(book.lists) if one in row and two in row])


def pair_lists(book, one, two):
    """Return the indexes of the lists that hold both names, ascending."""
    require_two(one, two, book.names)
    return both_at(book, one, two)


def blocks_of(book, one, two):
    """Return the blocks of two different names of the book, ascending."""
    single = [(name,) for name in part_out(book.names, (one, two))]
    return grouped(single, [book.lists[at] for at in both_at(book, one, two)])


def are_joined(book, one, two):
    """Tell whether two different names of the book have at most one block."""
    return len(blocks_of(book, one, two)) <= 1


def pair_blocks(book, one, two):
    """Return the blocks of the two names, ascending."""
    require_two(one, two, book.names)
    return blocks_of(book, one, two)


def is_joined(book, one, two):
    """Tell whether the two names are joined."""
    require_two(one, two, book.names)
    return are_joined(book, one, two)


def pairs_joined(book):
    """Tell whether each two different names of the book are joined."""
    return first_unjoined(book) is None


def first_unjoined(book):
    """Return the first two names that are not joined; None if there are none."""
    for one, two in subsets(book.names, PAIR):
        if not are_joined(book, one, two):
            return (one, two)
    return None


def pair_parting(book, one, two):
    """Return an unmet parting with the two names as lots; None if they are joined."""
    blocks = pair_blocks(book, one, two)
    if len(blocks) <= 1:
        return None
    rest = tuple(sorted([name for block in blocks[1:] for name in block]))
    return tuple(sorted([(one,), (two,), blocks[0], rest]))


def least_divided(book, one, two):
    """Return the least times of the partings in which two different names are lots alone."""
    others = part_out(book.names, (one, two))
    rows = [part_in(others, book.lists[at]) for at in both_at(book, one, two)]
    # The first of the other names is in one lot of each such parting, so the other lot is one of these.
    lots = [lot for size in range(1, len(others)) for lot in subsets(others[1:], size)]
    return min([len([row for row in rows if is_divided(row, lot)]) for lot in lots])


def is_divided(row, lot):
    """Tell whether some of the names of the row are in the lot, and some are not."""
    return part_in(row, lot) != () and part_out(row, lot) != ()


def pair_strength(book, one, two):
    """Return the pair strength of the two names, or None."""
    require_two(one, two, book.names)
    if len(book.names) < LOTS:
        return None
    return least_divided(book, one, two)


def strength_by_pairs(book):
    """Return the strength of the book, or None, by the pair strengths."""
    require_few(book.names, GROWN_NAMES)
    if len(book.names) < LOTS:
        return None
    return min([least_divided(book, one, two) for one, two in subsets(book.names, PAIR)])
