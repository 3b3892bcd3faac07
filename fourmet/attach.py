"""Spots of trees, hanging new names on them, and all trees on some names."""

from fourmet.arguments import check_optional, require_few, require_known
from fourmet.cutdown import strike
from fourmet.errors import BadSpot, RepeatedName, TooMany, WrongCount
from fourmet.names import GROWN_NAMES, MOST_NAMES, check_name, check_number, name_tuple
from fourmet.places import LEAST_PLACED, name_place, places, ties, way_with
from fourmet.sets import is_inside, part_out
from fourmet.trees import Tree, all_sides, divides, is_free, turned

START = "start"
TIE = "tie"
PLACE = "place"


def spots(tree):
    """Return the spots of the tree, ascending."""
    if len(tree.names) < 2:
        return ((START, tree.names),)
    return tuple([(PLACE, place) for place in places(tree)] + [(TIE, side) for side in ties(tree)])


def hung(tree, name, spot):
    """Return the tree with a name that it lacks hung at one of its spots."""
    word, held = spot
    names = tree.names + (name,)
    sides = []
    if word == TIE:
        sides = [widened(side, held, name) for side in tree.splits] + [held, held + (name,)]
    elif word == PLACE:
        top = part_out(tree.names, way_with(held, tree.names[0]))
        sides = [widened(side, top, name) for side in tree.splits]
    return Tree(names, [side for side in sides if divides(names, side)])


def widened(side, core, name):
    """Return the side, with the name as well if it holds all of the core."""
    if is_inside(core, side):
        return side + (name,)
    return side


def require_room(tree, name):
    """Raise an error if the name cannot be one more name of the tree."""
    if name in tree.names:
        raise RepeatedName(name)
    if len(tree.names) == MOST_NAMES:
        raise TooMany(MOST_NAMES)


def hang(tree, name, spot):
    """Return the tree with the name hung at the spot."""
    check_name(name)
    require_room(tree, name)
    if spot not in spots(tree):
        raise BadSpot()
    return hung(tree, name, spot)


def spot_of(tree, name):
    """Return the spot at which hanging the name, once it is struck, gives the tree back."""
    left = strike(tree, name)
    return [spot for spot in spots(left) if hung(left, name, spot) == tree][0]


def hang_pair(tree, name, new):
    """Return the tree with the new name hung on the tie between the name and all others."""
    check_name(name)
    check_name(new)
    require_known((name,), tree.names)
    require_room(tree, new)
    if len(tree.names) == 1:
        return hung(tree, new, (START, tree.names))
    return hung(tree, new, (TIE, turned(tree.names, (name,))))


def hang_beside(tree, name, new):
    """Return the tree with the new name hung at the place at which the name hangs."""
    check_name(name)
    check_name(new)
    require_known((name,), tree.names)
    require_room(tree, new)
    if len(tree.names) < LEAST_PLACED:
        raise WrongCount(len(tree.names))
    return hung(tree, new, (PLACE, name_place(tree, name)))


def all_trees(names):
    """Return all trees on the names, in the order of their splits."""
    held = name_tuple(names)
    require_few(held, GROWN_NAMES)
    found = [()]
    for side in all_sides(held):
        # The sides come in ascending order, so each row of splits is ascending.
        found = found + [sides + (side,) for sides in found if is_free(side, sides)]
    return tuple([Tree(held, sides) for sides in sorted(found)])


def count_trees(count, *, inner=None):
    """Return the number of trees with so many names, and with so many places if inner is not None."""
    check_number(count, 0, MOST_NAMES)
    check_optional(inner, 0, MOST_NAMES)
    row = tree_counts(count)
    if inner is None:
        return sum(row)
    return row[inner]


def tree_counts(count):
    """Return the numbers of trees with so many names, at the numbers of their places."""
    row = [0] * (MOST_NAMES + 1)
    if count < LEAST_PLACED:
        row[0] = 1
        return row
    row[1] = 1
    for names in range(LEAST_PLACED, count):
        row = [0] + [inner * row[inner] + (names + inner - 2) * row[inner - 1] for inner in range(1, len(row))]
    return row
