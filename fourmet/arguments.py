"""Checks of arguments that more than one module needs."""

from fourmet.errors import BadParting, RepeatedName, TooMany, UnknownName, UnlikeNames, WrongCount
from fourmet.names import MOST_LISTS, MOST_NAMES, check_name, check_number, name_tuple


def fixed_names(names, count):
    """Return the names as a name tuple of this many."""
    held = name_tuple(names)
    if len(held) != count:
        raise WrongCount(len(held))
    return held


def list_tuple(lists):
    """Return the lists, each as a name tuple."""
    held = tuple([name_tuple(names) for names in lists])
    if len(held) > MOST_LISTS:
        raise TooMany(MOST_LISTS)
    return held


def lot_tuple(lots, many):
    """Return so many lots, none empty and no name in two, each as a name tuple, in the order of their least names."""
    held = [name_tuple(lot) for lot in lots]
    found = [name for lot in held for name in lot]
    if len(held) != many or () in held or len(set(found)) < len(found) or len(found) > MOST_NAMES:
        raise BadParting()
    return tuple(sorted(held))


def check_optional(value, low, high):
    """Raise an error if the value is neither None nor a number from low to high."""
    if value is not None:
        check_number(value, low, high)


def check_indexes(indexes, many):
    """Raise an error if one of the indexes is not the index of one of so many lists."""
    for index in indexes:
        check_number(index, 0, many - 1)


def has_index(book, at):
    """Tell whether this number is the index of a list of the book."""
    return 0 <= at < len(book)


def require_known(names, known):
    """Raise an error for the first of the names, passed ascending, that is not known."""
    for name in names:
        if name not in known:
            raise UnknownName(name)


def require_name(name, known):
    """Raise an error if this is not a name, or not one that is known."""
    check_name(name)
    require_known((name,), known)


def require_two(one, two, known):
    """Raise an error if these are not names, or not two different ones that are known."""
    check_name(one)
    check_name(two)
    require_known((one,), known)
    require_known((two,), known)
    if one == two:
        raise RepeatedName(two)


def require_few(names, most):
    """Raise an error if the names are more than so many."""
    if len(names) > most:
        raise TooMany(most)


def require_like(names, others):
    """Raise an error if the two name tuples are not equal."""
    if names != others:
        raise UnlikeNames()
