"""What several test files need: a look at errors, and trees made by going through all sets of splits."""

import itertools

from fourmet import errors
from fourmet.trees import Tree

LETTERS = "abcdefghijklmnopqrstuvwxyz"
TWELVE = list(LETTERS[:12])
THIRTEEN = list(LETTERS[:13])
ATTRIBUTES = {
    "BadName": ("name",), "RepeatedName": ("name",), "UnknownName": ("name",), "TooMany": ("most",),
    "WrongCount": ("number",), "BadNumber": ("number",), "BadSplit": ("side",), "Clash": ("first", "second"),
    "BadText": ("at",), "BadLine": ("at",), "BadTelling": ("at",), "NotInAll": ("at",), "NotAlike": ("at",),
    "Untold": ("three",), "BadPlaces": (), "BadSpot": (), "BadParting": (), "BadPaper": (), "UnlikeNames": (),
    "SameTree": (), "NoTree": (), "SeveralTrees": (),
}


def raised(call, *values, **named):
    """The error that the call raises, as a tuple of its class's name and its attributes; None if it raises none."""
    try:
        call(*values, **named)
    except errors.FourmetError as error:
        name = error.__class__.__name__
        return (name, *[getattr(error, word) for word in ATTRIBUTES[name]])
    return None


def kinds(value):
    """The kinds of a value and of its parts, nested as they are."""
    if isinstance(value, (tuple, list)):
        return (value.__class__, tuple(kinds(part) for part in value))
    return value.__class__


def is_name_tuple(value):
    """Whether the value is a tuple of exactly strings, ascending and different."""
    return type(value) is tuple and all(type(name) is str for name in value) and list(value) == sorted(set(value))


def near_sides(names):
    """All near sides that splits of these names have, as sorted tuples."""
    rest = sorted(names)[1:]
    return sorted(side for size in range(2, len(names) - 1) for side in itertools.combinations(rest, size))


def sides_cross(one, two):
    """Whether two near sides cross, by the four corners without the first name."""
    one, two = set(one), set(two)
    return bool(one & two) and bool(one - two) and bool(two - one)


def split_sets(names):
    """All sets of near sides of which no two cross."""
    found = [()]
    for side in near_sides(names):
        found += [told + (side,) for told in found if not any(sides_cross(side, other) for other in told)]
    return sorted(tuple(sorted(told)) for told in found)


def every_tree(count):
    """All trees on the first so many letters."""
    names = LETTERS[:count]
    return [Tree(list(names), told) for told in split_sets(names)]


def caterpillar(count):
    """The full tree in which the names hang one after another."""
    names = list(LETTERS[:count])
    return Tree(names, [names[at:] for at in range(2, count - 1)])
