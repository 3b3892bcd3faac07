"""Partings that separate two trees, and how one is read off them."""

from fourmet.arguments import require_like
from fourmet.cutdown import strike
from fourmet.differ import unlike_lists
from fourmet.errors import NotAlike, SameTree
from fourmet.fourpart import all_picks, held_parting, require_parting_of
from fourmet.fours import said
from fourmet.places import name_place, way
from fourmet.sets import merged, part_out
from fourmet.twins import are_twins, first_end_group


def separates(parting, one, two):
    """Tell whether the two trees say unlike things on every pick of the parting."""
    lots = held_parting(parting)
    require_like(one.names, two.names)
    require_parting_of(lots, one.names)
    fours = [tuple(sorted(pick)) for pick in all_picks(lots)]
    return all([said(one, four) != said(two, four) for four in fours])


def require_unlike(one, two):
    """Raise an error if the two trees have unlike names or are equal."""
    require_like(one.names, two.names)
    if one == two:
        raise SameTree()


def read_off(one, two):
    """Return the parting that is read off the two trees."""
    require_unlike(one, two)
    lots, _ = reading(one, two)
    return lots


def read_steps(one, two):
    """Return the steps in which a parting is read off the two trees."""
    require_unlike(one, two)
    _, steps = reading(one, two)
    return steps


def read_unmet(book, one, two):
    """Return the parting that is read off two unlike trees that are alike on the book."""
    unlike = unlike_lists(book, one, two)
    # Equal trees are unlike on no list, so they are left to read_off.
    if unlike:
        raise NotAlike(unlike[0])
    return read_off(one, two)


def reading(one, two):
    """Return the parting that is read off two unlike trees, and the tuple of the steps."""
    # The first tree gives the two names, unless it has no end group.
    source, other = (two, one) if one.is_star else (one, two)
    x, y = first_end_group(source)[:2]
    if not are_twins(other, x, y):
        return (parting_with(one.names, x, y, way(other, x, y)[0]), (("apart", x, y),))
    first = strike(one, y)
    second = strike(two, y)
    if first == second:
        lots = part_out(name_place(first, x), ((x,),))
        return (parting_with(one.names, x, y, lots[0]), (("pair", x, y),))
    left, steps = reading(first, second)
    lots = [merged(lot, (y,)) if x in lot else lot for lot in left]
    return (tuple(sorted(lots)), (("twins", x, y),) + steps)


def parting_with(names, x, y, lot):
    """Return the parting of two names alone, a lot, and all remaining names."""
    rest = part_out(names, (x, y) + lot)
    return tuple(sorted([(x,), (y,), lot, rest]))
