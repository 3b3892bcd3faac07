"""Trees of descent: names, and splits of which no two cross."""

from fourmet.arguments import require_few, require_known, require_like
from fourmet.errors import BadSplit, Clash
from fourmet.names import PARTED_NAMES, check_name, name_tuple
from fourmet.sets import is_inside, part_in, part_out, subsets

# A split has this many names or more on each side.
LEAST_SIDE = 2


def turned(names, side):
    """Return the side, or what is outside of it if it holds the first of the names."""
    if side and side[0] == names[0]:
        return part_out(names, side)
    return side


def divides(names, side):
    """Tell whether the side, and what is outside of it, has names enough for a split."""
    return LEAST_SIDE <= len(side) <= len(names) - LEAST_SIDE


def near_cross(one, two):
    """Tell whether two sides cross that some one name is on neither of, as the first name is on no near side."""
    common = part_in(one, two)
    return common != () and common != one and common != two


def first_clash(sides):
    """Return the first two of the sides that cross; None if no two do. Some one name is on none of them."""
    for at, one in enumerate(sides):
        for two in sides[at + 1:]:
            if near_cross(one, two):
                return (one, two)
    return None


def require_apart(sides):
    """Raise an error for the first two of the sides that cross. Some one name is on none of them."""
    clash = first_clash(sides)
    if clash is not None:
        first, second = clash
        raise Clash(first, second)


def near_side(names, side):
    """Return the side as a near side among the names."""
    held = name_tuple(names)
    given = name_tuple(side)
    require_known(given, held)
    return turned(held, given)


def cross(names, one, two):
    """Tell whether the two sides cross among the names."""
    held = name_tuple(names)
    first = name_tuple(one)
    second = name_tuple(two)
    require_known(first, held)
    require_known(second, held)
    neither = part_out(part_out(held, first), second)
    return neither != () and near_cross(first, second)


def held_splits(names, sides):
    """Return the near sides, ascending, of the splits that are given by these sides."""
    for side in sides:
        require_known(side, names)
    for side in sides:
        if not divides(names, side):
            raise BadSplit(side)
    near = sorted({turned(names, side) for side in sides})
    require_apart(near)
    return tuple(near)


def replaced(names, table):
    """Return the names, those in the table with what it has in their place."""
    return [table.get(name, name) for name in names]


class Tree:
    """A tree, which never changes."""

    def __init__(self, names, splits=()):
        held = name_tuple(names)
        sides = [name_tuple(side) for side in splits]
        self._splits = held_splits(held, sides)
        self._names = held

    @property
    def names(self):
        """The name tuple of the names."""
        return self._names

    @property
    def splits(self):
        """The tuple of the near sides of the splits, ascending."""
        return self._splits

    @property
    def is_star(self):
        """Whether the tree has no split."""
        return len(self._splits) == 0

    @property
    def is_full(self):
        """Whether the tree has as many splits as a tree on its names can have."""
        return len(self._splits) == max(0, len(self._names) - 3)

    def __len__(self):
        return len(self._splits)

    def __iter__(self):
        return iter(self._splits)

    def __contains__(self, value):
        return value in self._splits

    def __eq__(self, other):
        return isinstance(other, Tree) and self._names == other._names and self._splits == other._splits

    def __and__(self, other):
        require_like(self._names, other.names)
        return Tree(self._names, [side for side in self._splits if side in other.splits])

    def renamed(self, old, new):
        """Return the tree in which the tip old is called new."""
        check_name(old)
        check_name(new)
        require_known((old,), self._names)
        table = {old: new}
        # If the tree has the new name already, the names of the new tree are not all different.
        return Tree(replaced(self._names, table), [replaced(side, table) for side in self._splits])

    def exchanged(self, one, two):
        """Return the tree in which the two names are exchanged."""
        check_name(one)
        check_name(two)
        require_known((one,), self._names)
        require_known((two,), self._names)
        table = {one: two, two: one}
        return Tree(self._names, [replaced(side, table) for side in self._splits])

    def with_split(self, side):
        """Return the tree with this split as well."""
        given = name_tuple(side)
        return Tree(self._names, self._splits + (given,))

    def without_split(self, side):
        """Return the tree without this split."""
        given = name_tuple(side)
        require_known(given, self._names)
        near = turned(self._names, given)
        if near not in self._splits:
            raise BadSplit(given)
        return Tree(self._names, [kept for kept in self._splits if kept != near])


def all_sides(names):
    """Return the near sides of all splits of a name tuple, ascending."""
    sizes = range(LEAST_SIDE, len(names) - LEAST_SIDE + 1)
    return sorted([side for size in sizes for side in subsets(names[1:], size)])


def is_free(near, sides):
    """Tell whether the near side is none of these near sides and crosses none of them."""
    return near not in sides and not any([near_cross(near, side) for side in sides])


def free_splits(tree):
    """Return the near sides of the splits that could be added to the tree, ascending."""
    require_few(tree.names, PARTED_NAMES)
    return tuple([side for side in all_sides(tree.names) if is_free(side, tree.splits)])


def refines(one, two):
    """Tell whether each split of two is a split of one."""
    require_like(one.names, two.names)
    return is_inside(two.splits, one.splits)
