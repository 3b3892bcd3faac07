"""Partings of names into four lots."""

from fourmet.arguments import lot_tuple, require_few, require_known
from fourmet.errors import BadParting, UnknownName
from fourmet.names import MOST_NAMES, PARTED_NAMES, check_name, check_number, name_tuple
from fourmet.sets import divisions, part_in

LOTS = 4


def held_parting(parting):
    """Return a parting that is passed in its held form."""
    return lot_tuple(parting, LOTS)


def parted_names(lots):
    """Return the names of the lots, as a name tuple if no two are equal."""
    return tuple(sorted([name for lot in lots for name in lot]))


def is_parting_of(lots, names):
    """Tell whether the lots, in any order, are a parting of the name tuple."""
    return len(lots) == LOTS and () not in lots and parted_names(lots) == names


def require_parting_of(lots, names):
    """Raise an error if the lots are not a parting of the name tuple."""
    if not is_parting_of(lots, names):
        raise BadParting()


def meets_all(names, lots):
    """Tell whether there is one of the names in each lot."""
    return all([any([name in names for name in lot]) for lot in lots])


def all_picks(lots):
    """Return the picks of a parting in its held form, ascending."""
    rows = [()]
    for lot in lots:
        rows = [row + (name,) for row in rows for name in lot]
    return tuple(rows)


def sizes(lots):
    """Return the sizes of the lots in descending order."""
    return tuple(sorted([len(lot) for lot in lots], reverse=True))


def make_parting(names, lots):
    """Return the parting of the names into these lots in its held form."""
    held = name_tuple(names)
    parting = held_parting(lots)
    require_parting_of(parting, held)
    return parting


def all_partings(names):
    """Return all partings of the names, ascending."""
    held = name_tuple(names)
    require_few(held, PARTED_NAMES)
    return divisions(held, LOTS)


def count_partings(count):
    """Return the number of partings of so many names."""
    check_number(count, 0, MOST_NAMES)
    row = [1] + [0] * LOTS
    for _ in range(count):
        row = [0] + [lots * row[lots] + row[lots - 1] for lots in range(1, LOTS + 1)]
    return row[LOTS]


def kind(parting):
    """Return the sizes of the lots of the parting in descending order."""
    return sizes(held_parting(parting))


def lot_of(parting, name):
    """Return the index of the lot that holds the name, in the held form of the parting."""
    lots = held_parting(parting)
    check_name(name)
    for at, lot in enumerate(lots):
        if name in lot:
            return at
    raise UnknownName(name)


def meets(names, parting):
    """Tell whether there is one of the names in each lot of the parting."""
    held = name_tuple(names)
    lots = held_parting(parting)
    require_known(held, parted_names(lots))
    return meets_all(held, lots)


def met_pick(names, parting):
    """Return the least of the names in each lot of the parting; None if a lot has none of them."""
    held = name_tuple(names)
    lots = held_parting(parting)
    require_known(held, parted_names(lots))
    if not meets_all(held, lots):
        return None
    return tuple([part_in(held, lot)[0] for lot in lots])


def picks(parting):
    """Return the picks of the parting, ascending."""
    return all_picks(held_parting(parting))
