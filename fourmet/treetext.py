"""Trees as texts."""

from fourmet.errors import BadText, RepeatedName, TooMany
from fourmet.names import LETTERS, MOST_SIGNS, MOST_TEXT, SIGNS, name_tuple
from fourmet.sets import parts
from fourmet.trees import Tree, divides


def write_tree(tree):
    """Return the told text of the tree."""
    names = tree.names
    if not names:
        return "()"
    return group_text(tree.splits, (names[:1],) + parts(tree.splits, names[1:]))


def group_text(sides, branches):
    """Return the text of a group of these branches, each one of the sides or a single name."""
    return "(" + ",".join([branch_text(sides, branch) for branch in branches]) + ")"


def branch_text(sides, branch):
    """Return the text of a branch: a name, or the group of the parts of a side."""
    if len(branch) == 1:
        return branch[0]
    return group_text(sides, parts(sides, branch))


def read_tree(text):
    """Return the tree of a text."""
    names, groups = read_groups(text)
    held = name_tuple(names)
    sides = [names[start:end] for start, end in groups]
    return Tree(held, [side for side in sides if divides(held, side)])


def is_told(text):
    """Tell whether the text is the told text of some tree."""
    try:
        tree = read_tree(text)
    except (BadText, RepeatedName, TooMany):
        return False
    return write_tree(tree) == text


def read_groups(text):
    """Return the names of a text, in order, and where in them each group but the outermost starts and ends."""
    if len(text) > MOST_TEXT:
        raise TooMany(MOST_TEXT)
    names = []
    groups = []
    # For each group that is open: the number of names ahead of it, and of its branches so far.
    starts = []
    counts = []
    branch_due = True
    at = 0
    while at < len(text):
        sign = text[at]
        after = at + 1
        if branch_due and sign == "(":
            starts.append(len(names))
            counts.append(0)
        elif branch_due and starts and sign in LETTERS:
            after = name_end(text, at)
            names.append(text[at:after])
            counts[-1] += 1
            branch_due = False
        elif starts and not branch_due and sign == ",":
            branch_due = True
        elif sign == ")" and may_close(counts, branch_due, groups):
            start = starts.pop()
            counts.pop()
            branch_due = False
            if starts:
                groups.append((start, len(names)))
                counts[-1] += 1
        else:
            raise BadText(at)
        at = after
    if starts or text == "":
        raise BadText(at)
    return (names, groups)


def name_end(text, start):
    """Return where the name that starts here ends."""
    end = start
    while end < len(text) and end - start < MOST_SIGNS and text[end] in SIGNS:
        end += 1
    return end


def may_close(counts, branch_due, groups):
    """Tell whether the innermost open group may close here."""
    if not counts:
        return False
    if branch_due:
        # Only the text without names closes where a branch may begin.
        return counts == [0]
    # A single branch is enough in the text of one name, which has no group inside.
    return counts[-1] >= 2 or (counts == [1] and not groups)
