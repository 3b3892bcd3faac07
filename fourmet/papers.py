"""Books, partings and papers as texts, and one judge for papers of every kind."""

from fourmet.books import Book
from fourmet.common import ROOTED, is_root_paper
from fourmet.errors import BadLine, BadPaper, TooMany
from fourmet.fourpart import held_parting
from fourmet.lies import CONFUSED, is_confusion
from fourmet.losses import LOSS, is_fatal
from fourmet.names import MOST_LISTS, MOST_PAPER, check_name, check_number
from fourmet.tellsall import FAILS, TELLS, is_verdict
from fourmet.treetext import read_tree, write_tree

NO_INDEXES = "-"
# The numbers of words, the first one included, that papers of each kind have at least, or exactly.
LEAST_WORDS = {"tells": 1, "rooted": 2, "fails": 4, "loss": 3, "confused": 4}
EXACT_KINDS = ("fails", "loss")


def require_short(text):
    """Raise an error if the text is too long."""
    if len(text) > MOST_PAPER:
        raise TooMany(MOST_PAPER)


def write_line(word, names):
    """Return a line of a book text."""
    return " ".join([word] + list(names))


def write_book(book):
    """Return the told book text of the book."""
    lines = [write_line("names", book.names)] + [write_line("list", row) for row in book.lists]
    return "\n".join(lines)


def read_book(text):
    """Return the book of a book text."""
    require_short(text)
    rows = [line.split(" ") for line in text.split("\n")]
    for at, row in enumerate(rows):
        word = "list" if at > 0 else "names"
        if row[0] != word or "" in row:
            raise BadLine(at)
    return Book(rows[0][1:], [row[1:] for row in rows[1:]])


def write_parting(parting):
    """Return the parting text of the parting."""
    return "|".join([",".join(lot) for lot in held_parting(parting)])


def read_parting(text):
    """Return the parting of a parting text, in its held form."""
    require_short(text)
    return held_parting([part.split(",") for part in text.split("|")])


def index_words(indexes):
    """Return the index words of the indexes."""
    return [str(index) for index in indexes]


def indexes_word(indexes):
    """Return the indexes word of the indexes."""
    if indexes:
        return ",".join(index_words(indexes))
    return NO_INDEXES


def read_index(word):
    """Return the index of an index word."""
    if not word.isdigit() or len(word) > 2 or (len(word) == 2 and word[0] == "0"):
        raise BadPaper()
    return int(word)


def read_indexes(words):
    """Return the indexes of index words."""
    return tuple([read_index(word) for word in words])


def read_indexes_word(word):
    """Return the indexes of an indexes word."""
    if word == NO_INDEXES:
        return ()
    return read_indexes(word.split(","))


def tells_words(paper):
    """Return the words of a paper that a book tells all trees, behind the first one."""
    _, indexes = paper
    return index_words(indexes)


def rooted_words(paper):
    """Return the words of a root paper behind the first one."""
    _, root, indexes = paper
    return [root] + index_words(indexes)


def fails_words(paper):
    """Return the words of a paper that a book does not tell all trees, behind the first one."""
    _, lots, first, second = paper
    return [write_parting(lots), write_tree(first), write_tree(second)]


def loss_words(paper):
    """Return the words of a loss behind the first one."""
    _, indexes, lots = paper
    return [indexes_word(indexes), write_parting(lots)]


def confused_words(paper):
    """Return the words of a confusion behind the first one."""
    _, indexes, first, second, trees = paper
    return [indexes_word(indexes)] + [write_tree(tree) for tree in (first, second) + trees]


WRITERS = {"tells": tells_words, "rooted": rooted_words, "fails": fails_words, "loss": loss_words,
           "confused": confused_words}


def write_paper(paper):
    """Return the paper text of the paper."""
    words_of = WRITERS[paper[0]]
    return " ".join([paper[0]] + words_of(paper))


# Each reader looks at all index words first, as a word of a wrong form counts before all that the others raise.


def read_tells(words):
    """Return the paper that a book tells all trees, from the words behind the first one."""
    return (TELLS, read_indexes(words))


def read_root_paper(words):
    """Return the root paper, from the words behind the first one."""
    indexes = read_indexes(words[1:])
    check_name(words[0])
    return (ROOTED, words[0], indexes)


def read_fails(words):
    """Return the paper that a book does not tell all trees, from the words behind the first one."""
    return (FAILS, read_parting(words[0]), read_tree(words[1]), read_tree(words[2]))


def read_loss(words):
    """Return the loss, from the words behind the first one."""
    return (LOSS, read_indexes_word(words[0]), read_parting(words[1]))


def read_confusion(words):
    """Return the confusion, from the words behind the first one."""
    indexes = read_indexes_word(words[0])
    trees = [read_tree(word) for word in words[1:]]
    return (CONFUSED, indexes, trees[0], trees[1], tuple(trees[2:]))


READERS = {"tells": read_tells, "rooted": read_root_paper, "fails": read_fails, "loss": read_loss,
           "confused": read_confusion}


def has_form(words):
    """Tell whether the words of a paper text are as many as their first one asks for, and none is empty."""
    if "" in words or words[0] not in LEAST_WORDS:
        return False
    least = LEAST_WORDS[words[0]]
    return len(words) == least or (len(words) > least and words[0] not in EXACT_KINDS)


def read_paper(text):
    """Return the paper of a paper text."""
    require_short(text)
    words = text.split(" ")
    if not has_form(words):
        raise BadPaper()
    reader = READERS[words[0]]
    return reader(words[1:])


def is_right(book, paper, *, lost=0, lying=0):
    """Tell whether the paper, of whatever kind, is right for the book and these numbers."""
    check_number(lost, 0, MOST_LISTS)
    check_number(lying, 0, MOST_LISTS)
    if paper[0] == ROOTED:
        return is_root_paper(book, paper)
    if paper[0] == LOSS:
        return is_fatal(book, paper, lost=lost)
    if paper[0] == CONFUSED:
        return is_confusion(book, paper, lost=lost, lying=lying)
    return is_verdict(book, paper)


def judge(book, text, *, lost=0, lying=0):
    """Tell whether the paper of a paper text is right for the book and these numbers."""
    return is_right(book, read_paper(text), lost=lost, lying=lying)
