"""Promises [41], [42] and the interface of fourmet/tellsall.py; [54] for verdicts."""

import itertools
import unittest

from fourmet.bothtrees import both_trees
from fourmet.books import Book
from fourmet.readoff import separates
from fourmet.tellsall import is_verdict, tells_all, tells_by_trees, verdict
from fourmet.trees import Tree
from fourmet.unmet import strength
from helpers import (LETTERS, TWELVE, every_tree, faulty_partings, kinds, meetings, one_paper_of_each_kind,
                     partings_of, raised, same_sayings, some_books, statement, turned_partings)

BOOK = Book(list("abcde"), [list("abcd"), list("bcde"), [], list("abde"), list("acde"), list("abce"), list("bcde")])
OPEN = Book(list("abcde"), [list("abcd"), list("abce"), list("acde"), list("bd")])


def books():
    """Books of up to seven names, some of which tell all trees."""
    for count in range(8):
        names = list(LETTERS[:count])
        yield from [Book(names), Book(names, [names]), Book(names, [[], names, names]), Book(names, [names[1:]])]
        yield Book(names, [[name for name in names if name != left] for left in names])
        yield from some_books(6, count, seed=7)


def tells_by_hand(book):
    """Whether each two trees on the book's names say unlike things of some four in a list."""
    fours = [four for four in itertools.combinations(book.names, 4)
             if any(set(four) <= set(names) for names in book.lists)]
    trees = every_tree(len(book.names))
    return len({tuple(statement(tree, four) for four in fours) for tree in trees}) == len(trees)


def alike_pairs(book):
    """All pairs of unlike trees that are alike on a book."""
    for one, two in itertools.permutations(every_tree(len(book.names)), 2):
        if all(same_sayings(one, two, names) for names in book.lists):
            yield one, two


class TestTellingAll(unittest.TestCase):
    def test_books(self):
        seen = set()
        for book in books():
            told = all(meetings(book, parting) for parting in partings_of(book.names))
            self.assertIs(tells_all(book), told)
            self.assertIs(tells_all(book=book), told)
            self.assertEqual(told, strength(book) is None or strength(book) >= 1)
            if len(book.names) <= 6:
                self.assertIs(tells_by_trees(book), told)
                self.assertIs(tells_by_trees(book=book), told)
                self.assertEqual(tells_by_hand(book), told)
            seen.add((len(book.names), told))
        self.assertEqual(seen, {(count, True) for count in range(8)} | {(count, False) for count in range(4, 8)})

    def test_few_names(self):
        for count in range(4):
            names = list(LETTERS[:count])
            for book in (Book(names), Book(names, [[]]), Book(names, [names])):
                self.assertIs(tells_all(book), True)
                self.assertIs(tells_by_trees(book), True)
                self.assertEqual(verdict(book), ("tells", ()))

    def test_examples(self):
        self.assertIs(tells_all(BOOK), True)
        self.assertIs(tells_by_trees(BOOK), True)
        self.assertIs(tells_all(OPEN), False)
        self.assertIs(tells_by_trees(OPEN), False)
        self.assertIs(tells_all(Book(list("abcd"))), False)

    def test_bounds(self):
        self.assertIs(tells_all(Book(LETTERS[:7])), False)
        self.assertIs(tells_by_trees(Book(LETTERS[:6], [LETTERS[:6]])), True)
        self.assertEqual(raised(tells_by_trees, Book(LETTERS[:7])), ("TooMany", 6))
        self.assertEqual(raised(tells_by_trees, Book(TWELVE, [TWELVE])), ("TooMany", 6))
        for call in (tells_all, verdict):
            self.assertEqual(raised(call, Book(LETTERS[:8])), ("TooMany", 7))
            self.assertEqual(raised(call, Book(TWELVE, [TWELVE])), ("TooMany", 7))


class TestVerdict(unittest.TestCase):
    def test_books(self):
        for book in books():
            partings = partings_of(book.names)
            unmet = [parting for parting in partings if not meetings(book, parting)]
            if unmet:
                told = ("fails", unmet[0], *both_trees(unmet[0]))
                self.assertEqual(kinds(verdict(book))[1][2:], (Tree, Tree))
            else:
                told = ("tells", tuple(meetings(book, parting)[0] for parting in partings))
            self.assertEqual(verdict(book), told)
            self.assertEqual(verdict(book=book), told)
            self.assertIs(is_verdict(book, told), True)
            self.assertIs(is_verdict(paper=told, book=book), True)

    def test_examples(self):
        self.assertEqual(verdict(BOOK), ("tells", (0, 3, 0, 3, 4, 0, 1, 1, 1, 0)))
        self.assertEqual(kinds(verdict(BOOK)), (tuple, (str, (tuple, (int,) * 10))))
        self.assertEqual(verdict(Book(list("abcd"), [list("abc"), list("abcd")])), ("tells", (1,)))
        self.assertEqual(verdict(Book(list("abcd"))), ("fails", (("a",), ("b",), ("c",), ("d",)),
                                                       Tree(list("abcd"), [["c", "d"]]),
                                                       Tree(list("abcd"), [["b", "d"]])))


class TestTellsPapers(unittest.TestCase):
    def test_each_index_at_each_parting(self):
        for book in [BOOK] + some_books(3, 6, seed=8):
            partings = partings_of(book.names)
            told = [min(meetings(book, parting), default=0) for parting in partings]
            right = all(meetings(book, parting) for parting in partings)
            self.assertIs(is_verdict(book, ("tells", tuple(told))), right)
            for at, parting in enumerate(partings):
                for index in [*range(-len(book) - 1, len(book) + 2), 10 ** 30, -10 ** 30]:
                    paper = ("tells", tuple(told[:at] + [index] + told[at + 1:]))
                    self.assertIs(is_verdict(book, paper), right and index in meetings(book, parting))

    def test_too_many_and_too_few(self):
        _, indexes = verdict(BOOK)
        for wrong in (indexes[:-1], indexes[1:], indexes + indexes[-1:], indexes * 2, (), (0,)):
            self.assertIs(is_verdict(BOOK, ("tells", wrong)), False)
        self.assertIs(is_verdict(Book(list("abc"), [[]]), ("tells", ())), True)
        self.assertIs(is_verdict(Book([]), ("tells", ())), True)
        self.assertIs(is_verdict(Book(list("abc"), [list("abc")]), ("tells", (0,))), False)
        self.assertIs(is_verdict(Book(list("abcd")), ("tells", ())), False)
        self.assertIs(is_verdict(Book(list("abcd")), ("tells", (0,))), False)
        self.assertIs(is_verdict(Book(list("abcd")), ("tells", (-1,))), False)

    def test_more_than_seven_names(self):
        seven = Book(LETTERS[:7], [LETTERS[:7]])
        self.assertIs(is_verdict(seven, ("tells", (0,) * 350)), True)
        self.assertIs(is_verdict(seven, ("tells", (0,) * 349)), False)
        for names in (LETTERS[:8], TWELVE):
            for indexes in ((), (0,), (-1, 5), (0,) * 1701):
                self.assertEqual(raised(is_verdict, Book(names, [names]), ("tells", indexes)), ("TooMany", 7))
                self.assertEqual(raised(is_verdict, Book(names), ("tells", indexes)), ("TooMany", 7))
            for paper in one_paper_of_each_kind(Book(names))[1:]:
                self.assertIsNone(raised(is_verdict, Book(names), paper))


class TestFailsPapers(unittest.TestCase):
    def test_every_alike_pair_with_every_parting(self):
        pairs = list(alike_pairs(OPEN))
        self.assertGreater(len(pairs), 10)
        for one, two in pairs:
            for parting in partings_of(OPEN.names):
                self.assertIs(is_verdict(OPEN, ("fails", parting, one, two)), not meetings(OPEN, parting))

    def test_every_pair_with_an_unmet_parting(self):
        _, parting, _, _ = verdict(OPEN)
        pairs = [(one.splits, two.splits) for one, two in alike_pairs(OPEN)]
        for one, two in itertools.product(every_tree(5), repeat=2):
            told = (one.splits, two.splits) in pairs
            self.assertIs(is_verdict(OPEN, ("fails", parting, one, two)), told)

    def test_orders_of_lots_and_names(self):
        book = Book(list("abcdefg"), [list("abcdef")])
        parting = (("a", "b"), ("c", "d"), ("e", "f"), ("g",))
        one, two = both_trees(parting)
        for lots in turned_partings(parting):
            self.assertIs(is_verdict(book, ("fails", lots, one, two)), True)
            self.assertIs(is_verdict(book.with_list(list("aceg")), ("fails", lots, one, two)), False)

    def test_faulty_partings(self):
        for book in (OPEN, Book(list("abcdefg")), Book(TWELVE), Book(TWELVE, [TWELVE[:4]])):
            parting = (tuple(book.names[:1]), tuple(book.names[1:2]), tuple(book.names[2:4]), tuple(book.names[4:]))
            unmet = verdict(OPEN)[1] if book == OPEN else parting
            one, two = both_trees(unmet)
            self.assertIs(is_verdict(book, ("fails", unmet, one, two)), meetings(book, unmet) == ())
            for lots in faulty_partings(unmet):
                self.assertIs(is_verdict(book, ("fails", lots, one, two)), False)
        one, two = both_trees((("a",), ("b",), ("c",), ("d",)))
        for lots in faulty_partings((("a",), ("b",), ("c",), ("d",))):
            self.assertIs(is_verdict(Book(list("abcd")), ("fails", lots, one, two)), False)

    def test_trees_of_other_names(self):
        _, parting, one, two = verdict(OPEN)
        for other in (Tree([]), Tree(list("abcd")), Tree(list("abcdf"), [["d", "f"]]), Tree(TWELVE)):
            self.assertIs(is_verdict(OPEN, ("fails", parting, one, other)), False)
            self.assertIs(is_verdict(OPEN, ("fails", parting, other, two)), False)
            self.assertIs(is_verdict(OPEN, ("fails", parting, other, other)), False)
        self.assertIs(is_verdict(OPEN, ("fails", parting, one, one)), False)
        self.assertIs(is_verdict(OPEN, ("fails", parting, two, one)), True)

    def test_books_of_every_size(self):
        for count in range(4, 13):
            names = tuple(LETTERS[:count])
            parting = (names[:1], names[1:2], names[2:3], names[3:])
            one, two = both_trees(parting)
            lists = [names[:3], names[1:]]
            self.assertIs(is_verdict(Book(names, lists), ("fails", parting, one, two)), True)
            self.assertIs(is_verdict(Book(names, lists), ("fails", parting, two, one)), True)
            self.assertIs(is_verdict(Book(names, lists + [names]), ("fails", parting, one, two)), False)
        for count in range(4):
            names = tuple(LETTERS[:count])
            tree = Tree(names)
            for lots in ((), (names,), tuple((name,) for name in names), ((), (), (), names)):
                self.assertIs(is_verdict(Book(names), ("fails", lots, tree, tree)), False)

    def test_other_trees_than_those_of_the_parting(self):
        book = Book(list("abcdef"), [list("abcd"), list("abcf")])
        parting = (("a", "b", "c"), ("d",), ("e",), ("f",))
        one, two = Tree(list("abcdef"), [["d", "e"]]), Tree(list("abcdef"), [["e", "f"]])
        self.assertIs(is_verdict(book, ("fails", parting, one, two)), True)
        parting = (("a",), ("b", "c"), ("d", "e"), ("f",))
        one, two = Tree(list("abcdef"), [["b", "e"]]), Tree(list("abcdef"), [["c", "e"]])
        self.assertIs(separates(parting, one, two), False)
        self.assertIs(is_verdict(book, ("fails", parting, one, two)), True)


class TestOtherPapers(unittest.TestCase):
    def test_right_papers_of_other_kinds(self):
        book = Book(list("abcd"), [list("abcd")])
        lots = (("a",), ("b",), ("c",), ("d",))
        tree = Tree(list("abcd"))
        for paper in (("rooted", "a", (0,)), ("loss", (0,), lots),
                      ("confused", (0,), tree, Tree(list("abcd"), [["c", "d"]]), ())):
            self.assertIs(is_verdict(book, paper), False)
        for paper in one_paper_of_each_kind(book)[2:]:
            self.assertIs(is_verdict(Book(list("abcd")), paper), False)
        self.assertIs(is_verdict(Book([]), ("rooted", "a", ())), False)

    def test_books_and_papers_stay(self):
        book = Book(OPEN.names, OPEN.lists)
        paper = verdict(book)
        for _ in range(2):
            self.assertIs(is_verdict(book, paper), True)
            self.assertEqual(verdict(book), paper)
            self.assertEqual((tells_all(book), tells_by_trees(book)), (False, False))
        self.assertEqual(book, OPEN)


if __name__ == "__main__":
    unittest.main()
