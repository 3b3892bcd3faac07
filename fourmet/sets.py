"""Sets of names as ascending tuples; nothing is checked here."""


def part_in(names, side):
    """Return the names that are in the side."""
    return tuple([name for name in names if name in side])


def part_out(names, side):
    """Return the names that are not in the side."""
    return tuple([name for name in names if name not in side])


def merged(one, two):
    """Return the names that are in one of the two or in both."""
    return tuple(sorted(set(one) | set(two)))


def is_inside(one, two):
    """Tell whether every name of one is in two."""
    return all([name in two for name in one])


def subsets(names, size):
    """Return all choices of so many of the names, ascending."""
    rows = [((), 0)]
    for _ in range(size):
        rows = [(row + (names[at],), at + 1) for row, start in rows for at in range(start, len(names))]
    return tuple([pair[0] for pair in rows])


def parts(sides, top):
    """Return the parts of a set, ascending: the largest of the sides inside it, and its names in none of these."""
    inner = [side for side in sides if side != top and is_inside(side, top)]
    largest = [side for side in inner if not is_inside_another(side, inner)]
    single = [(name,) for name in top if not any([name in side for side in largest])]
    return tuple(sorted(largest + single))


def is_inside_another(side, sides):
    """Tell whether the side lies inside one of the sides that is not equal to it."""
    return any([side != other and is_inside(side, other) for other in sides])


def linked(groups, row):
    """Return the groups, those that share a name with the row made one."""
    near = [group for group in groups if part_in(group, row)]
    if not near:
        return groups
    far = [group for group in groups if not part_in(group, row)]
    return far + [tuple(sorted([name for group in near for name in group]))]


def grouped(groups, rows):
    """Return the groups, ascending, those made one that the rows, one after another, connect."""
    found = list(groups)
    for row in rows:
        found = linked(found, row)
    return tuple(sorted(found))


def divisions(names, many):
    """Return all ways to divide the names into so many lots, ascending."""
    rows = [()]
    for name in names:
        rows = [lots for row in rows for lots in placings(row, name, many)]
    # The names come in ascending order, so the lots of each row stand in the order of their least names.
    return tuple(sorted([lots for lots in rows if len(lots) == many]))


def placings(lots, name, many):
    """Return the ways to put one more name into one of the lots, or into a new one if they are not so many yet."""
    found = [lots[:at] + (lot + (name,),) + lots[at + 1:] for at, lot in enumerate(lots)]
    if len(lots) == many:
        return found
    return found + [lots + ((name,),)]
