"""Scripts: lines that edit a desk and ask about it."""

from fourmet.books import Book
from fourmet.common import names_in_all, root_paper
from fourmet.cutdown import true_telling
from fourmet.desk import Desk
from fourmet.errors import FourmetError, TooMany
from fourmet.fill import fill
from fourmet.losses import bears, fatal_loss
from fourmet.names import MOST_LINES
from fourmet.papers import (indexes_word, judge, read_index, read_parting, require_short, write_book, write_paper,
                            write_parting)
from fourmet.readoff import read_off
from fourmet.tellsall import verdict
from fourmet.treetext import read_tree, write_tree
from fourmet.unmet import meeting_lists

OK = "ok"
SAME = "same"
NONE = "none"
REFUSED = "refused"


def done(changed):
    """Return the answer of an edit that may have changed nothing."""
    if changed:
        return OK
    return SAME


def row_or_none(words):
    """Return the words with one space between, or that there are none."""
    if words:
        return " ".join(words)
    return NONE


def paper_or_none(paper):
    """Return the paper text of the paper, or that there is none."""
    if paper is None:
        return NONE
    return write_paper(paper)


def say_name(desk, words):
    """Add a name."""
    desk.add_name(words[0])
    return OK


def say_unname(desk, words):
    """Drop a name."""
    desk.drop_name(words[0])
    return OK


def say_list(desk, words):
    """Add a list."""
    return OK + " " + str(desk.add_list(words))


def say_drop(desk, words):
    """Drop a list."""
    desk.drop_list(read_index(words[0]))
    return OK


def say_lose(desk, words):
    """Mark a list as lost."""
    return done(desk.lose(read_index(words[0])))


def say_restore(desk, words):
    """Take the mark of a list away."""
    return done(desk.restore(read_index(words[0])))


def say_undo(desk, _):
    """Undo the last edit."""
    return done(desk.undo())


def say_show(desk, _):
    """Tell the whole book, and which lists are lost."""
    text = write_book(desk.book).replace("\n", "; ")
    if desk.lost:
        return text + "; lost " + indexes_word(desk.lost)
    return text


def say_strength(desk, _):
    """Tell the strength of the left book."""
    number = desk.strength
    if number is None:
        return NONE
    return str(number)


def say_bears(desk, words):
    """Tell whether the left book bears these numbers."""
    if bears(desk.left, lost=read_index(words[0]), lying=read_index(words[1])):
        return "yes"
    return "no"


def say_verdict(desk, _):
    """Tell the verdict on the left book."""
    return write_paper(verdict(desk.left))


def say_common(desk, _):
    """Tell the common names of the left book."""
    return " ".join(names_in_all(desk.left)) or "-"


def say_rooted(desk, words):
    """Tell the root paper of the left book."""
    return paper_or_none(root_paper(desk.left, words[0]))


def say_fill(desk, _):
    """Tell the lists that the left book lacks."""
    return row_or_none([",".join(row) for row in fill(desk.left)])


def say_loss(desk, _):
    """Tell the loss of the left book."""
    return paper_or_none(fatal_loss(desk.left))


def say_times(desk, words):
    """Tell the times of a parting in the left book."""
    return str(len(meeting_lists(desk.left, read_parting(words[0]))))


def say_cut(desk, words):
    """Tell the cuts of a tree to the lists of the left book."""
    return row_or_none([write_tree(told) for told in true_telling(read_tree(words[0]), desk.left)])


def say_part(_, words):
    """Tell the parting that is read off two trees."""
    return write_parting(read_off(read_tree(words[0]), read_tree(words[1])))


def say_judge(desk, words):
    """Tell whether a paper is right for the left book."""
    if judge(desk.left, " ".join(words)):
        return "right"
    return "wrong"


ACTIONS = {"name": say_name, "unname": say_unname, "list": say_list, "drop": say_drop, "lose": say_lose,
           "restore": say_restore, "undo": say_undo, "show": say_show, "strength": say_strength, "bears": say_bears,
           "verdict": say_verdict, "common": say_common, "rooted": say_rooted, "fill": say_fill, "loss": say_loss,
           "times": say_times, "cut": say_cut, "part": say_part, "judge": say_judge}
# How many words stand behind the first one; behind those that are left out here, any number.
COUNTS = {"name": 1, "unname": 1, "drop": 1, "lose": 1, "restore": 1, "undo": 0, "show": 0, "strength": 0, "bears": 2,
          "verdict": 0, "common": 0, "rooted": 1, "fill": 0, "loss": 0, "times": 1, "cut": 1, "part": 2}


def has_shape(words):
    """Tell whether the first word of a line asks for so many words, and none is empty."""
    if "" in words or words[0] not in ACTIONS:
        return False
    many = len(words) - 1
    return COUNTS.get(words[0], many) == many


def run_line(desk, line):
    """Return the answer of one line on the desk."""
    words = line.split(" ")
    if not has_shape(words):
        return REFUSED
    action = ACTIONS[words[0]]
    try:
        return action(desk, words[1:])
    except FourmetError:
        return REFUSED


def run(text):
    """Return the answers of a script."""
    require_short(text)
    if text == "":
        return ()
    lines = text.split("\n")
    if len(lines) > MOST_LINES:
        raise TooMany(MOST_LINES)
    desk = Desk(Book([]))
    answers = []
    for line in lines:
        answers.append(run_line(desk, line))
    return tuple(answers)
