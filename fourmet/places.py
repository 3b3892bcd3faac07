"""The ties and the places of a tree."""

from fourmet.arguments import fixed_names, require_known, require_name, require_two
from fourmet.errors import BadPlaces
from fourmet.names import name_tuple
from fourmet.sets import is_inside, part_out, parts
from fourmet.trees import Tree, divides, first_clash, turned

# A tree with fewer names has no tops, and so no places.
LEAST_PLACED = 3


def place_of(tree, top):
    """Return the place of a top."""
    away = part_out(tree.names, top)
    return tuple(sorted(parts(tree.splits, top) + (away,)))


def way_with(place, name):
    """Return the way of the place that holds the name."""
    return [held for held in place if name in held][0]


def ties(tree):
    """Return the ties of the tree, ascending."""
    names = tree.names
    if len(names) < 2:
        return ()
    single = [(name,) for name in names[1:]]
    # With two names the only other one is also all names but the first.
    return tuple(sorted(set(single + list(tree.splits) + [names[1:]])))


def places(tree):
    """Return the places of the tree, ascending."""
    if len(tree.names) < LEAST_PLACED:
        return ()
    tops = tree.splits + (tree.names[1:],)
    return tuple(sorted([place_of(tree, top) for top in tops]))


def from_places(names, told):
    """Return the tree on the names whose places are exactly the ones told."""
    held = name_tuple(names)
    rows = [tuple(sorted([name_tuple(one) for one in place])) for place in told]
    ways = [one for row in rows for one in row]
    if not all([is_inside(one, held) for one in ways]):
        raise BadPlaces()
    # Each split of a tree is a way of some place, so no other tree can have these places.
    sides = sorted({turned(held, one) for one in ways if divides(held, one)})
    if first_clash(sides) is not None:
        raise BadPlaces()
    tree = Tree(held, sides)
    if list(places(tree)) != sorted(set(rows)):
        raise BadPlaces()
    return tree


def way(tree, one, two):
    """Return the way lots from one name to the other."""
    require_two(one, two, tree.names)
    lots = []
    for place in places(tree):
        near = way_with(place, one)
        far = way_with(place, two)
        if near != far:
            lots.append((len(near), part_out(part_out(tree.names, near), far)))
    return tuple([pair[1] for pair in sorted(lots)])


def meeting_place(tree, names):
    """Return the place at which the three names lie in three different ways."""
    three = fixed_names(names, 3)
    require_known(three, tree.names)
    return [place for place in places(tree) if len({way_with(place, name) for name in three}) == 3][0]


def name_place(tree, name):
    """Return the place at which the name hangs; None if there is no place."""
    require_name(name, tree.names)
    found = [place for place in places(tree) if (name,) in place]
    if found:
        return found[0]
    return None
