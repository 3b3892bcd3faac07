"""The bounds of the program, names, and sets of names."""

from fourmet.errors import BadName, BadNumber, RepeatedName, TooMany
from fourmet.sets import is_inside, merged, part_in, part_out, subsets

MOST_SIGNS = 8
MOST_NAMES = 12
MOST_LISTS = 12
PARTED_NAMES = 7
GROWN_NAMES = 6
MOST_TREES = 400
MOST_TEXT = 400
MOST_PAPER = 8000
MOST_LINES = 40

LETTERS = "abcdefghijklmnopqrstuvwxyz"
SIGNS = "abcdefghijklmnopqrstuvwxyz0123456789"


def is_name(value):
    """Tell whether the value is a name."""
    if not isinstance(value, str) or value == "" or len(value) > MOST_SIGNS:
        return False
    return value[0] in LETTERS and all([sign in SIGNS for sign in value])


def check_name(value):
    """Raise an error if the value is not a name."""
    if not is_name(value):
        raise BadName(value)


def check_whole(value):
    """Raise an error if the value is not a number."""
    # True and False would pass as integers.
    if isinstance(value, bool) or not isinstance(value, int):
        raise BadNumber(value)


def check_number(value, low, high):
    """Raise an error if the value is not a number from low to high."""
    check_whole(value)
    if value < low or value > high:
        raise BadNumber(value)


def name_tuple(names):
    """Return the names as a name tuple."""
    for name in names:
        check_name(name)
    seen = set()
    for name in names:
        if name in seen:
            raise RepeatedName(name)
        seen.add(name)
    if len(names) > MOST_NAMES:
        raise TooMany(MOST_NAMES)
    return tuple(sorted(names))


def shared(one, two):
    """Return the names that are in both."""
    held = name_tuple(one)
    return part_in(held, name_tuple(two))


def joined(one, two):
    """Return the names that are in one of the two or in both."""
    held = name_tuple(one)
    found = merged(held, name_tuple(two))
    if len(found) > MOST_NAMES:
        raise TooMany(MOST_NAMES)
    return found


def minus(one, two):
    """Return the names of one that are not in two."""
    held = name_tuple(one)
    return part_out(held, name_tuple(two))


def within(one, two):
    """Tell whether every name of one is in two."""
    held = name_tuple(one)
    return is_inside(held, name_tuple(two))


def choose(names, size):
    """Return all name tuples of so many of the names, ascending."""
    held = name_tuple(names)
    check_number(size, 0, MOST_NAMES)
    return subsets(held, size)
