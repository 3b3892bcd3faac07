"""Twins, twin groups and end groups."""

from fourmet.arguments import require_two
from fourmet.places import places


def hanging(place):
    """Return the names that hang at the place, ascending."""
    return tuple([way[0] for way in place if len(way) == 1])


def are_twins(tree, one, two):
    """Tell whether the two names hang at the same place."""
    require_two(one, two, tree.names)
    return any([(one,) in place and (two,) in place for place in places(tree)])


def twin_groups(tree):
    """Return the twin groups, ascending."""
    groups = [hanging(place) for place in places(tree)]
    return tuple(sorted([group for group in groups if len(group) >= 2]))


def end_groups(tree):
    """Return the end groups, ascending."""
    return tuple(sorted([hanging(place) for place in places(tree) if len(hanging(place)) == len(place) - 1]))


def first_end_group(tree):
    """Return the first end group; None for a star."""
    groups = end_groups(tree)
    if groups:
        return groups[0]
    return None
