"""Rooted trees, the trios that tell them apart, and what a book bears for them."""

from fourmet.arguments import lot_tuple, require_few, require_known, require_like, require_name
from fourmet.errors import BadPlaces, BadSplit, SameTree
from fourmet.fourpart import parted_names
from fourmet.lies import shared_out
from fourmet.losses import is_enough
from fourmet.names import MOST_LISTS, PARTED_NAMES, check_number, name_tuple
from fourmet.sets import divisions, is_inside, part_in, part_out, parts, subsets
from fourmet.trees import Tree, require_apart
from fourmet.treetext import group_text, read_groups
from fourmet.unmet import met_at

TRIO = 3
# A ball has this many names or more.
LEAST_BALL = 2


def is_cluster(names, row):
    """Tell whether some of the names have the size of a cluster."""
    return LEAST_BALL <= len(row) < len(names)


class Rooted:
    """A rooted tree, which never changes."""

    def __init__(self, names, clusters=()):
        held = name_tuple(names)
        rows = [name_tuple(cluster) for cluster in clusters]
        for row in rows:
            require_known(row, held)
        for row in rows:
            if not is_cluster(held, row):
                raise BadSplit(row)
        found = sorted(set(rows))
        require_apart(found)
        self._names = held
        self._clusters = tuple(found)

    @property
    def names(self):
        """The name tuple of the names."""
        return self._names

    @property
    def clusters(self):
        """The tuple of the clusters, ascending."""
        return self._clusters

    @property
    def balls(self):
        """The tuple of the balls, ascending."""
        if len(self._names) < LEAST_BALL:
            return ()
        return tuple(sorted(self._clusters + (self._names,)))

    @property
    def crown(self):
        """The tuple of the children of the ball of all names, ascending."""
        if len(self._names) < LEAST_BALL:
            return ()
        return parts(self._clusters, self._names)

    def __len__(self):
        return len(self._clusters)

    def __iter__(self):
        return iter(self._clusters)

    def __contains__(self, value):
        return value in self._clusters

    def __eq__(self, other):
        return isinstance(other, Rooted) and self._names == other._names and self._clusters == other._clusters

    def children(self, ball):
        """Return the children of the ball, ascending."""
        held = name_tuple(ball)
        require_known(held, self._names)
        if held not in self.balls:
            raise BadPlaces()
        return parts(self._clusters, held)


def to_tree(rooted, root):
    """Return the planted tree by the root."""
    # A root that is no name, or one of the names, and a name too many are faults of the names of the tree.
    return Tree(rooted.names + (root,), rooted.clusters)


def from_tree(tree, root):
    """Return the rooted tree whose planted tree by the root is the tree."""
    require_name(root, tree.names)
    sides = [part_out(tree.names, side) if root in side else side for side in tree.splits]
    return Rooted(part_out(tree.names, (root,)), sides)


def write_rooted(rooted):
    """Return the told text of the rooted tree."""
    if len(rooted.names) < LEAST_BALL:
        return group_text((), [(name,) for name in rooted.names])
    return group_text(rooted.clusters, rooted.crown)


def read_rooted(text):
    """Return the rooted tree of a text."""
    names, groups = read_groups(text)
    held = name_tuple(names)
    return Rooted(held, [names[start:end] for start, end in groups])


def rooted_cut(rooted, names):
    """Return the cut of the rooted tree to a name tuple of some of its names."""
    rows = [part_in(cluster, names) for cluster in rooted.clusters]
    return Rooted(names, [row for row in rows if is_cluster(names, row)])


def cut_rooted(rooted, names):
    """Return the cut of the rooted tree to the names."""
    held = name_tuple(names)
    require_known(held, rooted.names)
    return rooted_cut(rooted, held)


def rooted_unlike(book, one, two):
    """Return the indexes of the lists on which the two rooted trees are not alike, ascending."""
    require_like(book.names, one.names)
    require_like(book.names, two.names)
    return tuple([at for at, names in enumerate(book.lists) if rooted_cut(one, names) != rooted_cut(two, names)])


def held_trio(lots, names):
    """Return a trio that is passed in its held form; its names should be some of these."""
    held = lot_tuple(lots, TRIO)
    for lot in lots:
        require_known(sorted(lot), names)
    return held


def trio_lists(book, lots):
    """Return the indexes of the lists that meet the trio, ascending."""
    return met_at(book, held_trio(lots, book.names))


def both_rooted(names, lots):
    """Return the both rooted trees of the trio."""
    held = name_tuple(names)
    return both_of(held, held_trio(lots, held))


def both_of(names, trio):
    """Return the both rooted trees, on a name tuple, of a trio in its held form."""
    first, second, third = trio
    rows = [row for row in trio + (parted_names(trio),) if is_cluster(names, row)]
    return (Rooted(names, rows + [first + second]), Rooted(names, rows + [first + third]))


def counted_trios(book, crown):
    """Return the trios that tell rooted trees, or crowns, apart, ascending, each behind its times."""
    if crown:
        require_few(book.names, PARTED_NAMES)
        trios = divisions(book.names, TRIO)
    else:
        trios = [tuple([(name,) for name in three]) for three in subsets(book.names, TRIO)]
    return [(len(met_at(book, trio)), trio) for trio in trios]


def weakest_trio(book, *, crown=False):
    """Return the rooted strength, or the crown strength, and the first trio that has it; None if there is no trio."""
    rows = counted_trios(book, crown)
    if rows:
        return min(rows)
    return None


def rooted_strength(book, *, crown=False):
    """Return the rooted strength, or the crown strength, or None."""
    found = weakest_trio(book, crown=crown)
    if found is None:
        return None
    return found[0]


def read_crown(one, two):
    """Return the whole trio that is read off two rooted trees with unlike crowns."""
    require_like(one.names, two.names)
    if one.crown == two.crown:
        raise SameTree()
    apart = in_no_child(one.crown, two.crown)
    other = two.crown
    if not apart:
        apart = in_no_child(two.crown, one.crown)
        other = one.crown
    first = apart[0]
    second = [child for child in other if part_in(child, first)][0]
    lots = [part_in(first, second), part_out(first, second), part_out(one.names, first)]
    return tuple(sorted(lots))


def in_no_child(crown, other):
    """Return the children of the one crown that lie inside no child of the other."""
    return [child for child in crown if not any([is_inside(child, row) for row in other])]


def bears_rooted(book, *, lost=0, lying=0, crown=False):
    """Tell whether the book bears so many lost lists and so many that lie, for rooted trees or for crowns."""
    check_number(lost, 0, MOST_LISTS)
    check_number(lying, 0, MOST_LISTS)
    return is_enough(rooted_strength(book, crown=crown), lost, lying)


def rooted_confusion(book, *, lost=0, lying=0, crown=False):
    """Return the rooted confusion; None if the book bears so many lost lists and so many that lie."""
    check_number(lost, 0, MOST_LISTS)
    check_number(lying, 0, MOST_LISTS)
    found = weakest_trio(book, crown=crown)
    if found is None or is_enough(found[0], lost, lying):
        return None
    _, trio = found
    first, second = both_of(book.names, trio)
    indexes, firsts = shared_out(met_at(book, trio), lost)
    rows = [(at, names) for at, names in enumerate(book.lists) if at not in indexes]
    trees = [rooted_cut(first if at in firsts else second, names) for at, names in rows]
    return (indexes, first, second, tuple(trees))
