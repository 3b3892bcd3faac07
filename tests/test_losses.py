"""Promises [45], [46] and the interface of fourmet/losses.py; [54] for losses."""

import itertools
import unittest

from fourmet.books import Book
from fourmet.losses import bears, bears_by_losing, fatal_loss, is_fatal
from fourmet.tellsall import tells_all
from fourmet.trees import Tree
from fourmet.unmet import strength
from helpers import (LETTERS, TWELVE, every_tree, faulty_partings, kinds, meetings, one_paper_of_each_kind,
                     partings_of, raised, same_sayings, some_books, statement, turned_partings)

BOOK = Book(list("abcde"), [list("abcd"), list("abcde"), [], list("abce"), list("abcd"), list("bcde")])


def books():
    for count in range(8):
        names = list(LETTERS[:count])
        yield from [Book(names), Book(names, [names] * 12), Book(names, [names] * 5 + [[]])]
        yield from some_books(5, count, seed=13)


def least_times(book):
    """The strength, from all partings; None if there are none."""
    return min((len(meetings(book, parting)) for parting in partings_of(book.names)), default=None)


def tells_by_hand(names, lists):
    """Whether the lists tell each tree on the names from each other one."""
    fours = [four for four in itertools.combinations(names, 4) if any(set(four) <= set(row) for row in lists)]
    trees = every_tree(len(names))
    return len({tuple(statement(tree, four) for four in fours) for tree in trees}) == len(trees)


class TestBears(unittest.TestCase):
    def test_all_numbers(self):
        for book in books():
            least = least_times(book)
            numbers = range(13) if len(book.names) <= 5 else (0, 1, 2, 4, 12)
            for lost, lying in itertools.product(numbers, repeat=2):
                told = least is None or least >= lost + 2 * lying + 1
                self.assertIs(bears(book, lost=lost, lying=lying), told)
            self.assertIs(bears(book), least is None or least >= 1)
            self.assertIs(bears(book), tells_all(book))
            for number in numbers:
                self.assertEqual(bears(book, lost=number), bears(book, lying=0, lost=number))
                self.assertEqual(bears(book=book, lying=number), bears(book, lost=0, lying=number))

    def test_lost_and_lying_by_all_that_can_be_told(self):
        """[45] itself: no two trees fit what is told when some lists are lost and some lie."""
        trees = every_tree(4)
        for many in range(6):
            for rest in ([], [list("abc")]):
                book = Book(list("abcd"), [list("abcd")] * many + rest)
                for lost, lying in itertools.product(range(4), range(3)):
                    told = True
                    left = max(0, many - lost)
                    # Of the lists of four names those that are left may tell any tree.
                    for tellings in itertools.combinations_with_replacement(trees, left):
                        fit = [tree for tree in trees if sum(tree != other for other in tellings) <= lying]
                        told = told and len(fit) <= 1
                    self.assertIs(bears(book, lost=lost, lying=lying), told)

    def test_examples(self):
        self.assertIs(bears(BOOK), True)
        self.assertIs(bears(BOOK, lost=1), False)
        self.assertIs(bears(Book(list("abcd"), [list("abcd")] * 3), lying=1), True)
        self.assertIs(bears(Book(list("abcd"), [list("abcd")] * 3), lost=1, lying=1), False)
        self.assertIs(bears(Book(list("abcd"), [list("abcd")] * 12), lost=11), True)
        self.assertIs(bears(Book(list("abcd"), [list("abcd")] * 12), lost=12), False)
        for count in range(4):
            self.assertIs(bears(Book(LETTERS[:count]), lost=12, lying=12), True)

    def test_errors(self):
        for value in (-1, 13, 10 ** 30, True, False, None, "1"):
            self.assertEqual(raised(bears, BOOK, lost=value), ("BadNumber", value))
            self.assertEqual(raised(bears, BOOK, lying=value), ("BadNumber", value))
            self.assertEqual(raised(bears, BOOK, lying=-7, lost=value), ("BadNumber", value))
            self.assertEqual(raised(bears, Book(TWELVE), lying=value), ("BadNumber", value))
        for call in (bears, fatal_loss):
            self.assertIsNone(raised(call, Book(LETTERS[:7])))
            self.assertEqual(raised(call, Book(LETTERS[:8])), ("TooMany", 7))
            self.assertEqual(raised(call, Book(TWELVE, [TWELVE])), ("TooMany", 7))


class TestBearsByLosing(unittest.TestCase):
    def test_all_ways_to_lose(self):
        seen = set()
        for book in books():
            if len(book.names) <= 6:
                for lost in (0, 1, 2):
                    told = bears(book, lost=lost)
                    self.assertIs(bears_by_losing(book, lost=lost), told)
                    self.assertIs(bears_by_losing(book=book, lost=lost), told)
                    seen.add((lost, told))
                self.assertIs(bears_by_losing(book), bears(book, lost=1))
        self.assertEqual(seen, set(itertools.product((0, 1, 2), (True, False))))

    def test_what_is_left_tells_all_trees(self):
        for book in some_books(8, 5, seed=14):
            for lost in (0, 1, 2):
                keep = max(0, len(book) - lost)
                told = all(tells_by_hand(book.names, lists) for lists in itertools.combinations(book.lists, keep))
                self.assertIs(bears_by_losing(book, lost=lost), told)

    def test_fewer_lists_than_are_lost(self):
        four = list("abcd")
        for many, lost in ((0, 0), (0, 1), (0, 2), (1, 1), (1, 2), (2, 2)):
            self.assertIs(bears_by_losing(Book(four, [four] * many), lost=lost), False)
            self.assertIs(bears_by_losing(Book(four[1:], [four[1:]] * many), lost=lost), True)
        self.assertIs(bears_by_losing(Book(four, [four] * 3), lost=2), True)
        self.assertIs(bears_by_losing(Book(four, [four] * 12), lost=2), True)

    def test_errors(self):
        for value in (-1, 3, True, False, None, "1"):
            self.assertEqual(raised(bears_by_losing, BOOK, lost=value), ("BadNumber", value))
            self.assertEqual(raised(bears_by_losing, Book(TWELVE), lost=value), ("BadNumber", value))
        self.assertIsNone(raised(bears_by_losing, Book(LETTERS[:6])))
        for lost in (0, 1, 2):
            self.assertEqual(raised(bears_by_losing, Book(LETTERS[:7]), lost=lost), ("TooMany", 6))
            self.assertEqual(raised(bears_by_losing, Book(TWELVE, [TWELVE]), lost=lost), ("TooMany", 6))


class TestFatalLoss(unittest.TestCase):
    def test_books(self):
        for book in books():
            times = [len(meetings(book, parting)) for parting in partings_of(book.names)]
            if not times:
                self.assertIsNone(fatal_loss(book))
                continue
            parting = partings_of(book.names)[times.index(min(times))]
            told = ("loss", meetings(book, parting), parting)
            self.assertEqual(fatal_loss(book), told)
            self.assertEqual(fatal_loss(book=book), told)
            self.assertEqual(len(told[1]), strength(book))
            self.assertIs(is_fatal(book, told, lost=len(told[1])), True)
            self.assertIs(tells_all(book.without_lists(told[1])), False)
            if told[1]:
                self.assertIs(is_fatal(book, told, lost=len(told[1]) - 1), False)

    def test_examples(self):
        self.assertEqual(fatal_loss(BOOK), ("loss", (1,), (("a",), ("b", "c"), ("d",), ("e",))))
        self.assertEqual(kinds(fatal_loss(BOOK))[1][:2], (str, (tuple, (int,))))
        self.assertEqual(fatal_loss(Book(list("abcd"))), ("loss", (), (("a",), ("b",), ("c",), ("d",))))
        for count in range(4):
            self.assertIsNone(fatal_loss(Book(LETTERS[:count], [LETTERS[:count]])))

    def test_unlike_trees_are_alike_on_what_is_left(self):
        for book in some_books(5, 5, seed=15):
            _, indexes, _ = fatal_loss(book)
            left = book.without_lists(indexes)
            self.assertTrue(any(all(same_sayings(one, two, names) for names in left.lists)
                                for one, two in itertools.combinations(every_tree(5), 2)))


class TestIsFatal(unittest.TestCase):
    def test_all_sets_of_indexes(self):
        for parting in partings_of(BOOK.names):
            for size in range(7):
                for indexes in itertools.combinations(range(6), size):
                    told = set(meetings(BOOK, parting)) <= set(indexes)
                    self.assertIs(is_fatal(BOOK, ("loss", indexes, parting), lost=12), told)
                    self.assertIs(is_fatal(BOOK, ("loss", indexes[::-1], parting), lost=size), told)
                    if size:
                        self.assertIs(is_fatal(BOOK, ("loss", indexes, parting), lost=size - 1), False)

    def test_spoilt_indexes(self):
        _, indexes, parting = fatal_loss(BOOK)
        for more in ((1,), (-1,), (6,), (-5,), (7,), (10 ** 30,), (-10 ** 30,), (0, 0), (2, 5, 2)):
            self.assertIs(is_fatal(BOOK, ("loss", indexes + more, parting), lost=12), False)
            self.assertIs(is_fatal(BOOK, ("loss", more + indexes, parting), lost=12), False)
        for wrong in ((), (0,), (2, 3), (-5,)):
            self.assertIs(is_fatal(BOOK, ("loss", wrong, parting), lost=12), False)
        self.assertIs(is_fatal(BOOK, ("loss", (5, 1, 0), parting), lost=3), True)
        self.assertIs(is_fatal(BOOK, ("loss", (5, 1, 0), parting), lost=2), False)
        self.assertIs(is_fatal(BOOK, ("loss", tuple(range(13)), parting), lost=12), False)

    def test_no_lists(self):
        parting = (("a",), ("b",), ("c",), ("d",))
        book = Book(list("abcd"))
        self.assertIs(is_fatal(book, ("loss", (), parting), lost=0), True)
        self.assertIs(is_fatal(book, ("loss", (), parting), lost=12), True)
        self.assertIs(is_fatal(book, ("loss", (0,), parting), lost=12), False)
        self.assertIs(is_fatal(book, ("loss", (-1,), parting), lost=12), False)
        full = Book(list("abcd"), [list("abcd")] * 12)
        self.assertIs(is_fatal(full, ("loss", tuple(range(12)), parting), lost=12), True)
        self.assertIs(is_fatal(full, ("loss", tuple(range(12)), parting), lost=11), False)
        self.assertIs(is_fatal(full, ("loss", tuple(range(11)), parting), lost=12), False)

    def test_partings(self):
        _, indexes, parting = fatal_loss(BOOK)
        for lots in turned_partings(parting):
            self.assertIs(is_fatal(BOOK, ("loss", indexes, lots), lost=1), True)
        for lots in faulty_partings(parting):
            self.assertIs(is_fatal(BOOK, ("loss", tuple(range(6)), lots), lost=12), False)
        for count in (8, 12):
            names = tuple(LETTERS[:count])
            parting = (names[:1], names[1:3], names[3:5], names[5:])
            book = Book(names, [names, names[:3], names[::2]])
            told = meetings(book, parting)
            for lots in turned_partings(parting):
                self.assertIs(is_fatal(book, ("loss", told, lots), lost=2), True)
            for lots in faulty_partings(parting):
                self.assertIs(is_fatal(book, ("loss", (0, 1, 2), lots), lost=12), False)
        for count in range(4):
            names = tuple(LETTERS[:count])
            for lots in ((), (names,), tuple((name,) for name in names), ((), (), (), names)):
                self.assertIs(is_fatal(Book(names), ("loss", (), lots), lost=0), False)

    def test_other_papers(self):
        tree, two = Tree(list("abcd")), Tree(list("abcd"), [["c", "d"]])
        lots = (("a",), ("b",), ("c",), ("d",))
        for book in (Book(list("abcd")), Book(list("abcd"), [list("abcd")])):
            for paper in [("tells", (0,)), ("tells", ()), ("fails", lots, tree, two), ("rooted", "a", (0,)),
                          ("confused", (), tree, two, ())]:
                self.assertIs(is_fatal(book, paper, lost=12), False)
        self.assertIs(is_fatal(BOOK, one_paper_of_each_kind(BOOK)[4], lost=12), False)

    def test_lost_is_checked_for_every_paper(self):
        papers = one_paper_of_each_kind(BOOK) + [fatal_loss(BOOK), ("tells", ()), ("loss", (), ())]
        for value in (-1, 13, True, False, None, "0"):
            for paper in papers:
                self.assertEqual(raised(is_fatal, BOOK, paper, lost=value), ("BadNumber", value))
                self.assertEqual(raised(is_fatal, Book(TWELVE), paper, lost=value), ("BadNumber", value))
        for paper in papers:
            self.assertIsNone(raised(is_fatal, BOOK, paper, lost=0))
            self.assertIsNone(raised(is_fatal, Book([]), paper, lost=12))
        with self.assertRaises(TypeError):
            is_fatal(BOOK, fatal_loss(BOOK))
        self.assertIs(is_fatal(paper=fatal_loss(BOOK), lost=1, book=BOOK), True)

    def test_books_and_papers_stay(self):
        book = Book(BOOK.names, BOOK.lists)
        paper = fatal_loss(book)
        for _ in range(2):
            self.assertEqual(fatal_loss(book), paper)
            self.assertIs(is_fatal(book, paper, lost=1), True)
            self.assertEqual((bears(book), bears_by_losing(book)), (True, False))
        self.assertEqual(book, BOOK)
        self.assertEqual(paper, ("loss", (1,), (("a",), ("b", "c"), ("d",), ("e",))))


if __name__ == "__main__":
    unittest.main()
