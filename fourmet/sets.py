"""Sets of names as ascending tuples; nothing is checked here."""


def part_in(names, side):
    """Return the names that are in the side."""
    return tuple([name for name in names if name in side])


def part_out(names, side):
    """Return the names that are not in the side."""
    return tuple([name for name in names if name not in side])


def merged(one, two):
    """Return the names that are in one of the two or in both."""
    return tuple(sorted(set(one) | set(two)))


def is_inside(one, two):
    """Tell whether every name of one is in two."""
    return all([name in two for name in one])


def subsets(names, size):
    """Return all choices of so many of the names, ascending."""
    rows = [((), 0)]
    for _ in range(size):
        rows = [(row + (names[at],), at + 1) for row, start in rows for at in range(start, len(names))]
    return tuple([pair[0] for pair in rows])
