"""Dated trees: rooted trees with heights, and what the heights of some pairs tell of them."""

from fourmet.arguments import fixed_names, require_few, require_known, require_two
from fourmet.errors import BadPlaces, NoTree, WrongCount
from fourmet.fours import PAIR, THREE
from fourmet.names import check_number, check_whole, name_tuple
from fourmet.rooted import Rooted
from fourmet.sets import grouped, is_inside, part_in, part_out, subsets

# What the children of each ball are at a level: some two of them are linked, they hang together, each two are linked.
SOME_LINKED = 1
TOGETHER = 2
ALL_LINKED = 3
# All sets of pairs of so many names can be gone through.
MOST_PAIRED = 4


class Dated:
    """A dated tree, which never changes."""

    def __init__(self, rooted, heights):
        for height in heights:
            check_whole(height)
        if len(heights) != len(rooted.balls):
            raise WrongCount(len(heights))
        rows = tuple(zip(rooted.balls, heights))
        if not are_rising(rows):
            raise BadPlaces()
        self._rooted = rooted
        self._rows = rows

    @property
    def names(self):
        """The name tuple of the names."""
        return self._rooted.names

    @property
    def rooted(self):
        """The rooted tree."""
        return self._rooted

    @property
    def heights(self):
        """The tuple of the heights of the balls, in the ascending order of the balls."""
        return tuple([height for _, height in self._rows])

    def __len__(self):
        return len(self._rows)

    def __iter__(self):
        return iter(self._rows)

    def __eq__(self, other):
        return isinstance(other, Dated) and self._rooted == other._rooted and self._rows == other._rows

    def __call__(self, one, two):
        """Return the height of the two names."""
        require_two(one, two, self.names)
        return min([height for ball, height in self._rows if one in ball and two in ball])


def are_rising(rows):
    """Tell whether each ball that lies inside another one has a smaller height."""
    return all([height < above for ball, height in rows for other, above in rows
                if ball != other and is_inside(ball, other)])


def pair_heights(dated):
    """Return all pairs of names with their heights, ascending."""
    return tuple([(one, two, dated(one, two)) for one, two in subsets(dated.names, PAIR)])


def held_told(told):
    """Return the told heights, each with its names ascending."""
    rows = []
    for first, second, height in told:
        one, two = name_tuple((first, second))
        check_whole(height)
        rows.append((one, two, height))
    return rows


def require_known_pairs(rows, names):
    """Raise an error if one of the rows, each beginning with a pair, has a name that is none of these."""
    for row in rows:
        require_known(row[:PAIR], names)


def held_pairs(pairs, rooted):
    """Return the pairs of names of the rooted tree, each ascending."""
    rows = [fixed_names(pair, PAIR) for pair in pairs]
    require_known_pairs(rows, rooted.names)
    return rows


def dated_by(names, table):
    """Return the dated tree with these heights, by pairs; they should be the heights of all pairs of one."""
    heights = {}
    for pair in subsets(names, PAIR):
        heights[ball_around(names, pair, table)] = table[pair]
    rooted = Rooted(names, [ball for ball in heights if ball != names])
    return Dated(rooted, [heights[ball] for ball in rooted.balls])


def ball_around(names, pair, table):
    """Return the names that are no further from the first name of the pair than the second one is."""
    first = pair[0]
    return tuple([name for name in names if name == first or table[pair_of(first, name)] <= table[pair]])


def pair_of(one, two):
    """Return the pair of two names."""
    return tuple(sorted([one, two]))


def is_level(names, table):
    """Tell whether among every three names the greatest of their three heights occurs twice or more."""
    rows = [sorted([table[pair] for pair in subsets(three, PAIR)]) for three in subsets(names, THREE)]
    return all([row[1] == row[2] for row in rows])


def from_heights(names, told):
    """Return the dated tree in which the heights of all pairs are exactly these."""
    held = name_tuple(names)
    rows = held_told(told)
    require_known_pairs(rows, held)
    table = {(one, two): height for one, two, height in rows}
    if len(set(rows)) != len(table) or len(table) != len(subsets(held, PAIR)) or not is_level(held, table):
        raise NoTree()
    return dated_by(held, table)


def are_linked(couple, pairs):
    """Tell whether some pair has one name in each of two sets."""
    one, two = couple
    return any([part_in(pair, one) != () and part_in(pair, two) != () for pair in pairs])


def ball_level(children, pairs):
    """Return the level of a single ball with these children."""
    couples = subsets(children, 2)
    found = [couple for couple in couples if are_linked(couple, pairs)]
    if len(found) == len(couples):
        return ALL_LINKED
    if len(grouped(children, pairs)) == 1:
        return TOGETHER
    if found:
        return SOME_LINKED
    return 0


def first_below(rooted, pairs, level):
    """Return the first ball that does not have the level; None if each ball has it."""
    for ball in rooted.balls:
        if ball_level(rooted.children(ball), pairs) < level:
            return ball
    return None


def level_of(rooted, pairs):
    """Return the level of pairs of names of the rooted tree."""
    return min([ball_level(rooted.children(ball), pairs) for ball in rooted.balls], default=ALL_LINKED)


def pairs_level(rooted, pairs):
    """Return the level of the pairs."""
    return level_of(rooted, held_pairs(pairs, rooted))


def ball_steps(rooted):
    """Return the steps of the balls, by the balls."""
    steps = {}
    for ball in sorted(rooted.balls, key=len):
        inner = [steps[child] for child in rooted.children(ball) if child in steps]
        steps[ball] = 1 + max(inner, default=0)
    return steps


def other_heights(rooted, pairs):
    """Return two dated trees with this rooted tree that are alike on the pairs; None if there are no two."""
    bare = first_below(rooted, held_pairs(pairs, rooted), SOME_LINKED)
    if bare is None:
        return None
    steps = ball_steps(rooted)
    first = [2 * steps[ball] for ball in rooted.balls]
    second = [2 * steps[ball] + 1 if ball == bare else 2 * steps[ball] for ball in rooted.balls]
    return (Dated(rooted, first), Dated(rooted, second))


def with_height(dated, one, two, height):
    """Return the dated tree in which each pair with one name in each of two sets has this height."""
    table = {(first, second): kept for first, second, kept in pair_heights(dated)}
    for pair in [pair_of(x, y) for x in one for y in two]:
        table[pair] = height
    return dated_by(dated.names, table)


def higher_tree(dated, pairs):
    """Return a higher dated tree that is alike on the pairs; None if there need not be one."""
    rooted = dated.rooted
    held = held_pairs(pairs, rooted)
    ball = first_below(rooted, held, TOGETHER)
    if ball is None:
        return None
    heights = {other: height for other, height in dated}
    above = [height for other, height in dated if other != ball and is_inside(ball, other)]
    group = grouped(rooted.children(ball), held)[0]
    return with_height(dated, group, part_out(ball, group), min(above, default=heights[ball] + 1))


def lower_tree(dated, pairs):
    """Return a lower dated tree that is alike on the pairs; None if there need not be one."""
    rooted = dated.rooted
    held = held_pairs(pairs, rooted)
    ball = first_below(rooted, held, ALL_LINKED)
    if ball is None:
        return None
    heights = {other: height for other, height in dated}
    couples = subsets(rooted.children(ball), 2)
    one, two = [couple for couple in couples if not are_linked(couple, held)][0]
    inner = [heights[child] for child in (one, two) if child in heights]
    return with_height(dated, one, two, max(inner, default=heights[ball] - 1))


def least_crests(names, rows):
    """Return the least crests of all walks, by the pairs that have a walk."""
    groups = [(name,) for name in names]
    table = {}
    for height, one, two in sorted([(told, first, second) for first, second, told in rows]):
        # The groups are what lower told heights connect; names of two of them have no walk with a lower crest.
        near = [group for group in groups if one in group or two in group]
        if len(near) == 2:
            for pair in [pair_of(x, y) for x in near[0] for y in near[1]]:
                table[pair] = height
            groups = grouped(groups, [(one, two)])
    return table


def highest_tree(names, told):
    """Return the highest dated tree that the told heights fit; None if the names do not hang together."""
    held = name_tuple(names)
    rows = held_told(told)
    require_known_pairs(rows, held)
    table = least_crests(held, rows)
    if any([table[(one, two)] != height for one, two, height in rows]):
        raise NoTree()
    if len(table) < len(subsets(held, PAIR)):
        return None
    return dated_by(held, table)


def only_tree(names, told):
    """Return the only dated tree that the told heights fit; None if they fit more."""
    highest = highest_tree(names, told)
    if highest is None or level_of(highest.rooted, [row[:PAIR] for row in held_told(told)]) < ALL_LINKED:
        return None
    return highest


def plain_pairs(rooted, *, level=3):
    """Return the plain pairs for the level, ascending."""
    check_number(level, SOME_LINKED, ALL_LINKED)
    found = []
    for ball in rooted.balls:
        children = rooted.children(ball)
        couples = subsets(children, 2)
        if level == SOME_LINKED:
            couples = couples[:1]
        elif level == TOGETHER:
            # The couples with the first child stand first.
            couples = couples[:len(children) - 1]
        found.extend([(one[0], two[0]) for one, two in couples])
    return tuple(sorted(found))


def fewest_pairs(rooted, *, level=3):
    """Return the fewest pairs with this level or more, and of these the first."""
    check_number(level, SOME_LINKED, ALL_LINKED)
    require_few(rooted.names, MOST_PAIRED)
    pairs = subsets(rooted.names, PAIR)
    choices = [choice for size in range(len(pairs) + 1) for choice in subsets(pairs, size)]
    return [choice for choice in choices if level_of(rooted, choice) >= level][0]
