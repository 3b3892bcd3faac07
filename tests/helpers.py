"""What several test files need: a look at errors, and trees, partings and books made without the program's own ways."""

import functools
import itertools
import random

from fourmet import errors
from fourmet.books import Book
from fourmet.rooted import Rooted
from fourmet.trees import Tree

LETTERS = "abcdefghijklmnopqrstuvwxyz"
TWELVE = list(LETTERS[:12])
THIRTEEN = list(LETTERS[:13])
ATTRIBUTES = {
    "BadName": ("name",), "RepeatedName": ("name",), "UnknownName": ("name",), "TooMany": ("most",),
    "WrongCount": ("number",), "BadNumber": ("number",), "BadSplit": ("side",), "Clash": ("first", "second"),
    "BadText": ("at",), "BadLine": ("at",), "BadTelling": ("at",), "NotInAll": ("at",), "NotAlike": ("at",),
    "Untold": ("three",), "BadPlaces": (), "BadSpot": (), "BadParting": (), "BadPaper": (), "UnlikeNames": (),
    "SameTree": (), "NoTree": (), "SeveralTrees": (),
}
# A parting in its held form, and the same one passed otherwise; and one of twelve names.
SEVEN = (("a", "f"), ("b",), ("c", "d", "g"), ("e",))
MESSY = [["g", "d", "c"], ("e",), ("f", "a"), ["b"]]
BIG = (("a", "l"), ("b",), ("c", "d", "e", "f", "g"), ("h", "i", "j", "k"))
# Lots that are no parting, with what is due for them.
FAULTY = [
    ([], ("BadParting",)),
    ([["a"], ["b"], ["c"]], ("BadParting",)),
    ([["a"], ["b"], ["c"], ["d"], ["e"]], ("BadParting",)),
    ([["a"], ["b"], ["c"], []], ("BadParting",)),
    ([[], ["a"], ["b"], ["c"], ["d"]], ("BadParting",)),
    ([[], [], [], []], ("BadParting",)),
    ([["a"], ["b"], ["c"], ["c"]], ("BadParting",)),
    ([["a"], ["b"], ["c"], ["c"], ["d"]], ("BadParting",)),
    ([["a"], ["b", "c"], ["c", "d"], ["e"]], ("BadParting",)),
    ([["a", "b"], ["b", "a"], ["c"], ["d"]], ("BadParting",)),
    ([["a"], ["b"], ["c"], [*THIRTEEN[3:], "z"]], ("BadParting",)),
    ([THIRTEEN[:4], THIRTEEN[4:8], THIRTEEN[8:12], THIRTEEN[12:]], ("BadParting",)),
    ([THIRTEEN], ("TooMany", 12)),
    ([["a"], ["a"], THIRTEEN, ["B"]], ("TooMany", 12)),
    ([["a"], ["b"], ["c"], ["d", "d"], ["B"]], ("RepeatedName", "d")),
    ([["a"], ["b"], ["c", "c", "B"], ["d", "d"]], ("BadName", "B")),
    ([["a"], ["a"], ["c"], [None]], ("BadName", None)),
    ([[], [], [True]], ("BadName", True)),
    ([["a"], ["b"], ["c"], [7]], ("BadName", 7)),
    ([["a"], ["b"], ["c"], [""]], ("BadName", "")),
]


def raised(call, *values, **named):
    """The error that the call raises, as a tuple of its class's name and its attributes; None if it raises none."""
    try:
        call(*values, **named)
    except errors.FourmetError as error:
        name = error.__class__.__name__
        return (name, *[getattr(error, word) for word in ATTRIBUTES[name]])
    return None


def kinds(value):
    """The kinds of a value and of its parts, nested as they are."""
    if isinstance(value, (tuple, list)):
        return (value.__class__, tuple(kinds(part) for part in value))
    return value.__class__


def is_name_tuple(value):
    """Whether the value is a tuple of exactly strings, ascending and different."""
    return type(value) is tuple and all(type(name) is str for name in value) and list(value) == sorted(set(value))


def near_sides(names):
    """All near sides that splits of these names have, as sorted tuples."""
    rest = sorted(names)[1:]
    return sorted(side for size in range(2, len(names) - 1) for side in itertools.combinations(rest, size))


def sides_cross(one, two):
    """Whether two near sides cross, by the four corners without the first name."""
    one, two = set(one), set(two)
    return bool(one & two) and bool(one - two) and bool(two - one)


def split_sets(names):
    """All sets of near sides of which no two cross."""
    found = [()]
    for side in near_sides(names):
        found += [told + (side,) for told in found if not any(sides_cross(side, other) for other in told)]
    return sorted(tuple(sorted(told)) for told in found)


def every_tree(count):
    """All trees on the first so many letters."""
    names = LETTERS[:count]
    return [Tree(list(names), told) for told in split_sets(names)]


@functools.lru_cache(None)
def trees_on(names):
    """All trees on a name tuple, in ascending order of their splits."""
    return tuple(Tree(names, told) for told in split_sets(names))


@functools.lru_cache(None)
def cluster_sets(names):
    """All sets of clusters of a name tuple of which no two conflict, each ascending, in ascending order."""
    found = [()]
    for size in range(2, len(names)):
        for row in itertools.combinations(names, size):
            found += [told + (row,) for told in found if not any(sides_cross(row, other) for other in told)]
    return tuple(sorted(tuple(sorted(told)) for told in found))


@functools.lru_cache(None)
def rooted_on(names):
    """All rooted trees on a name tuple."""
    return tuple(Rooted(names, told) for told in cluster_sets(names))


def closest(rooted, three):
    """The two of three names that a cluster holds without the third one; None if there are no such two."""
    for left in three:
        if any(left not in row and all(name in row for name in three if name != left) for row in rooted.clusters):
            return tuple(name for name in three if name != left)
    return None


def same_closest(one, two, names):
    """Whether two rooted trees are alike on the names, by what they say of each three of them."""
    return all(closest(one, three) == closest(two, three) for three in itertools.combinations(names, 3))


def caterpillar(count):
    """The full tree in which the names hang one after another."""
    names = list(LETTERS[:count])
    return Tree(names, [names[at:] for at in range(2, count - 1)])


def stands_against(tree, two, others):
    """Whether a split has the two names on one side and all the others on the other."""
    return divided_by(tree.splits, two, others)


def divided_by(splits, two, others):
    """Whether one of the near sides has the two names on one side and all the others on the other."""
    for side in splits:
        inside = [name in side for name in two]
        away = [name in side for name in others]
        if (all(inside) and not any(away)) or (all(away) and not any(inside)):
            return True
    return False


def middle(tree, three):
    """The place at which three names meet, found from the splits alone."""
    rest = list(tree.names)
    ways = []
    while rest:
        name = rest[0]
        near = [other for other in rest if other == name or any(
            stands_against(tree, (name, other), [far for far in three if far != left]) for left in three)]
        ways.append(tuple(near))
        rest = [other for other in rest if other not in near]
    return tuple(sorted(ways))


def middles(tree):
    """All places of a tree, as the places at which any three names meet."""
    return tuple(sorted({middle(tree, three) for three in itertools.combinations(tree.names, 3)}))


def statement(tree, four):
    """What a tree says of four names in ascending order, by trying the three ways to pair them."""
    return statement_by(tree.splits, tuple(four))


@functools.lru_cache(None)
def statement_by(splits, four):
    """What a tree with these near sides says of four names in ascending order."""
    first = four[0]
    for mate in four[1:]:
        others = tuple(name for name in four if name not in (first, mate))
        if divided_by(splits, (first, mate), others):
            return ((first, mate), others)
    return None


def same_sayings(one, two, names):
    """Whether two trees say the same of each four of the names, which are ascending."""
    return all(statement(one, four) == statement(two, four) for four in itertools.combinations(names, 4))


@functools.lru_cache(None)
def partings_of(names):
    """All partings of a name tuple, by trying every way to mark its names with the numbers of four lots."""
    found = set()
    for marks in itertools.product(range(4), repeat=len(names)):
        lots = tuple(sorted(tuple(name for name, mark in zip(names, marks) if mark == lot) for lot in range(4)))
        if all(lots):
            found.add(lots)
    return tuple(sorted(found))


def in_each(names, parting):
    """Whether the names have one in each lot."""
    return all(set(names) & set(lot) for lot in parting)


def meetings(book, parting):
    """The indexes of the lists that meet a parting."""
    return tuple(at for at, names in enumerate(book.lists) if in_each(names, parting))


def some_books(many, count, most=12, seed=1):
    """So many books on the first letters, with none to most lists each, most of the names on most of the lists."""
    source = random.Random(seed * 100 + count)
    names = list(LETTERS[:count])
    found = []
    for _ in range(many):
        chance = source.choice([3, 6, 7, 8, 9])
        rows = [[name for name in names if source.randrange(10) < chance] for _ in range(source.randrange(most + 1))]
        found.append(Book(names, rows))
    return found


def is_lie(tree, told):
    """Whether a tree that is told on some names of another one says something else of four of them."""
    return not same_sayings(tree, told, told.names)


def some_tellings(book, many, seed=1):
    """So many tellings of a book, of random trees on its lists; they need not fit any tree."""
    source = random.Random(seed)
    return [[source.choice(trees_on(names)) for names in book.lists] for _ in range(many)]


def told_wrong(book, trees):
    """Sequences of trees that are no telling of the book, made of one that is, each with the attribute that is due."""
    trees = list(trees)
    strange = Tree(["zz", "zzz"])
    for at, tree in enumerate(trees):
        for other in (strange, Tree([*tree.names, "zz"]), Tree(tree.names[1:])):
            if other.names != tree.names:
                yield trees[:at] + [other] + trees[at + 1:], at
                yield trees[:at] + [other] * (len(trees) - at), at
                yield tuple(trees[:at] + [other] + trees[at + 1:] + [strange]), at
        yield trees[:at], at
    yield trees + [strange], len(trees)
    yield trees + [Tree([])], len(trees)
    if trees:
        yield tuple(trees + trees), len(trees)


def one_paper_of_each_kind(book):
    """A paper of each of the five kinds for a book of four names or more; not all of them are right for it."""
    names = list(book.names)
    one, two = Tree(names), Tree(names, [names[-2:]])
    lots = tuple((name,) for name in names[:3]) + (tuple(names[3:]),)
    return [("tells", (0,)), ("fails", lots, one, two), ("rooted", names[0], (0,)), ("loss", (0,), lots),
            ("confused", (0,), one, two, (one, two))]


def faulty_partings(parting):
    """Values of the shape of a parting, made of a right one, that are not right for its names."""
    first, second, third, fourth = parting
    return [(), (first, second, third), (first, second, third + fourth), (*parting, ()), (*parting, first),
            (*parting, ("zz",)), (first, second, (), third + fourth), (first, first, second, third + fourth),
            (first, first, third, fourth), (first + first, second, third, fourth), (first, second, third, fourth + first),
            (first, second, third, fourth + ("zz",)), (first, second, third, ("zz",)), (first, second, third, ()),
            (first, second, third, ("Z", "")), (first[1:], second, third, fourth), (first, second, third, fourth[:-1]),
            ((), (), (), first + second + third + fourth)]


def turned_partings(parting):
    """The same parting with its lots, and the names in the lots, in other orders."""
    for lots in itertools.permutations(parting):
        yield lots
        yield tuple(lot[::-1] for lot in lots)
