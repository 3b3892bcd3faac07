"""What a tree says of four names, and the trees that say it."""

from fourmet.arguments import fixed_names, require_known, require_name
from fourmet.errors import NoTree, RepeatedName
from fourmet.names import check_name, name_tuple
from fourmet.sets import part_in, part_out, subsets
from fourmet.trees import Tree, divides, first_clash

FOUR = 4
THREE = 3
PAIR = 2


def said(tree, four):
    """Return the statement that the tree says of a four, or None."""
    for side in tree.splits:
        pair = part_in(four, side)
        if len(pair) == PAIR:
            return tuple(sorted([pair, part_out(four, pair)]))
    return None


def say(tree, names):
    """Return the statement that the tree says of the four names, or None."""
    four = fixed_names(names, FOUR)
    require_known(four, tree.names)
    return said(tree, four)


def told_fours(tree):
    """Return all statements that the tree says, in the order of their fours."""
    answers = [said(tree, four) for four in subsets(tree.names, FOUR)]
    return tuple([statement for statement in answers if statement is not None])


def held_statement(statement):
    """Return the statement with its names, and then its pairs, ascending."""
    first, second = statement
    four = name_tuple(list(first) + list(second))
    pair = tuple(sorted(first))
    return tuple(sorted([pair, part_out(four, pair)]))


def from_fours(names, statements):
    """Return the tree on the names that says exactly these statements."""
    held = name_tuple(names)
    told = [held_statement(statement) for statement in statements]
    for first, second in told:
        require_known(sorted(first + second), held)
    if len(held) < FOUR:
        return Tree(held)
    root = held[0]
    # The root is the least name, so it can stand in the first pair alone.
    pairs = {tuple(sorted(first[1:] + second)): second for first, second in told if first[0] == root}
    tree = tree_of_pairs(held, root, pairs)
    if tree is None or sorted(told_fours(tree)) != sorted(set(told)):
        raise NoTree()
    return tree


def tree_of_pairs(names, root, pairs):
    """Return the only tree that can have these rooted pairs, a dict by threes; None if its sides would cross."""
    others = part_out(names, (root,))
    lots = [pair_lot(others, pair, pairs) for pair in subsets(others, PAIR)]
    sides = [lot for lot in lots if divides(names, lot)]
    # The root is on none of these sides, as the first name is on no near side.
    if first_clash(sides) is not None:
        return None
    return Tree(names, sides)


def pair_lot(others, pair, pairs):
    """Return the lot of two names: they and the names with which they are not the rooted pair."""
    away = [name for name in part_out(others, pair) if pairs.get(tuple(sorted(pair + (name,)))) == pair]
    return part_out(others, away)


def against(tree, root, three):
    """Return the rooted pair of a three."""
    statement = said(tree, tuple(sorted(three + (root,))))
    if statement is None:
        return None
    first, second = statement
    if root in first:
        return second
    return first


def rooted_pair(tree, root, names):
    """Return the rooted pair of the three names, or None."""
    check_name(root)
    three = fixed_names(names, THREE)
    require_known((root,), tree.names)
    require_known(three, tree.names)
    if root in three:
        raise RepeatedName(root)
    return against(tree, root, three)


def rooted_entries(tree, root):
    """Return the entries of all threes of the names other than the root, ascending by the threes."""
    require_name(root, tree.names)
    others = part_out(tree.names, (root,))
    return tuple([(three, against(tree, root, three)) for three in subsets(others, THREE)])


def held_entry(entry):
    """Return the entry with its names ascending."""
    names, told = entry
    three = fixed_names(names, THREE)
    if told is None:
        return (three, None)
    return (three, fixed_names(told, PAIR))


def from_entries(names, root, entries):
    """Return the tree on the names whose entries for the root are exactly these."""
    held = name_tuple(names)
    check_name(root)
    told = [held_entry(entry) for entry in entries]
    require_known((root,), held)
    pairs = {}
    for three, pair in told:
        if pairs.get(three, pair) != pair:
            raise NoTree()
        pairs[three] = pair
    tree = tree_of_pairs(held, root, pairs)
    if tree is None or list(rooted_entries(tree, root)) != [(three, pairs[three]) for three in sorted(pairs)]:
        raise NoTree()
    return tree
