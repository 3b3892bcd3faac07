"""Promises [50], [51], [25], [43] and the interface of fourmet/terrace.py."""

import itertools
import unittest

from fourmet.books import Book
from fourmet.cutdown import true_telling
from fourmet.tellsall import tells_all
from fourmet.terrace import conflict, fit, fit_by_root, fitting, is_alone, sure_tree, terrace
from fourmet.trees import Tree
from helpers import (LETTERS, TWELVE, caterpillar, is_lie, kinds, raised, same_sayings, some_books, some_tellings,
                     statement, told_wrong, trees_on)

BOOK = Book(list("abcde"), [list("abcd"), list("abce"), [], list("bcde"), list("abc")])
TREE = Tree(list("abcde"), [["d", "e"], ["c", "d", "e"]])
NUMBERS = (-1, 401, 10 ** 30, True, False, None, "1")


def books(most=6):
    for count in range(most + 1):
        names = tuple(LETTERS[:count])
        yield from [Book(names), Book(names, [names]), Book(names, [names[1:], [], names[:-1]])]
        yield from some_books(3, count, most=6, seed=41)


def cases():
    """Books with tellings; half of the tellings fit a tree."""
    for at, book in enumerate(books()):
        for trees in some_tellings(book, 2, seed=at):
            yield book, trees
        every = trees_on(book.names)
        for tree in (every[0], every[len(every) // 2], every[-1]):
            yield book, list(true_telling(tree, book))


def fitting_by_hand(book, trees):
    return tuple(tree for tree in trees_on(book.names) if not any(is_lie(tree, told) for told in trees))


class TestFitting(unittest.TestCase):
    def test_cases(self):
        seen = set()
        for book, trees in cases():
            found = fitting_by_hand(book, trees)
            self.assertEqual(fitting(book, trees), found)
            self.assertEqual(fitting(most=400, trees=tuple(trees), book=book), found)
            for most in (0, 1, 2, 5, 400):
                self.assertEqual(fitting(book, trees, most=most), found[:most])
            told = [("none",), ("one", *found), ("several", *found[:2])][min(2, len(found))]
            seen.add(told[0])
            self.assertEqual(fit(book, trees), told)
            self.assertEqual(fit(trees=tuple(trees), book=book), told)
        self.assertEqual(seen, {"none", "one", "several"})

    def test_examples(self):
        self.assertEqual(fit(BOOK, true_telling(TREE, BOOK)), ("one", TREE))
        self.assertEqual(kinds(fit(BOOK, true_telling(TREE, BOOK))), (tuple, (str, Tree)))
        self.assertEqual(kinds(fit(Book(list("abcd")), [])), (tuple, (str, Tree, Tree)))
        self.assertEqual(kinds(fitting(Book(list("abcd")), [])), (tuple, (Tree,) * 4))
        for count in range(4):
            names = list(LETTERS[:count])
            self.assertEqual(fitting(Book(names, [names]), [Tree(names)]), (Tree(names),))
            self.assertEqual(fit(Book(names), []), ("one", Tree(names)))
            self.assertEqual(fitting(Book(names), [], most=0), ())
        self.assertEqual(len(fitting(Book(LETTERS[:6]), [])), 236)

    def test_errors(self):
        for trees, at in told_wrong(BOOK, true_telling(TREE, BOOK)):
            for call in (fitting, fit, conflict):
                self.assertEqual(raised(call, BOOK, trees), ("BadTelling", at))
            self.assertEqual(raised(fitting, BOOK, trees, most=0), ("BadTelling", at))
            for value in NUMBERS:
                self.assertEqual(raised(fitting, BOOK, trees, most=value), ("BadNumber", value))
        seven = Book(LETTERS[:7], [LETTERS[:7]])
        for call in (fitting, fit):
            self.assertEqual(raised(call, seven, [Tree(LETTERS[:7])]), ("TooMany", 6))
            self.assertEqual(raised(call, Book(TWELVE), []), ("TooMany", 6))
            self.assertEqual(raised(call, seven, []), ("BadTelling", 0))
        self.assertEqual(raised(fitting, Book(TWELVE), [], most=0), ("TooMany", 6))
        self.assertEqual(raised(fitting, seven, [], most=-1), ("BadNumber", -1))


class TestTerrace(unittest.TestCase):
    def test_books(self):
        for book in books():
            every = trees_on(book.names)
            for tree in every[::17] + every[-1:]:
                found = tuple(other for other in every if all(same_sayings(tree, other, row) for row in book.lists))
                self.assertEqual(terrace(book, tree), found)
                self.assertEqual(terrace(tree=tree, most=400, book=book), found)
                for most in (0, 1, 2, 400):
                    self.assertEqual(terrace(book, tree, most=most), found[:most])
                self.assertIs(is_alone(book, tree), found == (tree,))
                self.assertIs(is_alone(tree=tree, book=book), found == (tree,))
                sure = [side for side in tree.splits if all(side in other.splits for other in found)]
                self.assertEqual(sure_tree(book, tree), Tree(book.names, sure))
                self.assertEqual(sure_tree(tree=tree, book=book), Tree(book.names, sure))

    def test_a_book_tells_all_trees_exactly_if_each_tree_is_alone(self):
        for book in books(5):
            self.assertIs(all(is_alone(book, tree) for tree in trees_on(book.names)), tells_all(book))

    def test_the_tree_itself_may_be_missing(self):
        book = Book(list("abcd"))
        last = trees_on(tuple("abcd"))[-1]
        self.assertEqual(terrace(book, last, most=2), trees_on(tuple("abcd"))[:2])
        self.assertEqual(terrace(book, last, most=0), ())
        self.assertEqual(terrace(book, last), trees_on(tuple("abcd")))
        self.assertEqual(sure_tree(book, last), Tree(list("abcd")))
        self.assertEqual(kinds(terrace(book, last, most=1)), (tuple, (Tree,)))

    def test_errors(self):
        for call in (terrace, is_alone, sure_tree):
            for other in (Tree(list("abcd")), Tree(list("abcdf")), Tree([]), Tree(TWELVE)):
                self.assertEqual(raised(call, BOOK, other), ("UnlikeNames",))
            self.assertIsNone(raised(call, Book(LETTERS[:6]), Tree(LETTERS[:6])))
            self.assertEqual(raised(call, Book(LETTERS[:7]), Tree(LETTERS[:7])), ("TooMany", 6))
            self.assertEqual(raised(call, Book(TWELVE), Tree(TWELVE)), ("TooMany", 6))
            self.assertEqual(raised(call, Book(TWELVE), TREE), ("UnlikeNames",))
        for value in NUMBERS:
            self.assertEqual(raised(terrace, BOOK, TREE, most=value), ("BadNumber", value))
            self.assertEqual(raised(terrace, BOOK, Tree([]), most=value), ("BadNumber", value))


class TestConflict(unittest.TestCase):
    def test_cases(self):
        seen = set()
        for book, trees in cases():
            rows = [(first, second, four) for first, second in itertools.combinations(range(len(book)), 2)
                    for four in itertools.combinations(book.names, 4)
                    if set(four) <= set(book.lists[first]) & set(book.lists[second])
                    and statement(trees[first], four) != statement(trees[second], four)]
            self.assertEqual(conflict(book, trees), min(rows, default=None))
            self.assertEqual(conflict(trees=tuple(trees), book=book), min(rows, default=None))
            if rows:
                self.assertEqual(fit(book, trees), ("none",))
            seen.add((bool(rows), fit(book, trees)[0]))
        self.assertLessEqual({(True, "none"), (False, "one"), (False, "several")}, seen)

    def test_no_conflict_and_no_tree(self):
        book = Book(list("abcde"), [list("abcd"), list("abce"), list("abde")])
        trees = [Tree(list("abcd"), [["a", "b"]]), Tree(list("abce"), [["a", "c"]]), Tree(list("abde"), [["a", "e"]])]
        self.assertIsNone(conflict(book, trees))
        self.assertEqual(fit(book, trees), ("none",))

    def test_examples_and_bounds(self):
        names = LETTERS[:7]
        book = Book(names, [names[:4], names, names[1:], names])
        trees = [Tree(names[:4]), Tree(names), Tree(names[1:], [["f", "g"]]), Tree(names, [["f", "g"]])]
        self.assertEqual(conflict(book, trees), (1, 2, ("b", "c", "f", "g")))
        self.assertEqual(kinds(conflict(book, trees)), (tuple, (int, int, (tuple, (str,) * 4))))
        self.assertIsNone(conflict(Book(names), []))
        self.assertEqual(raised(conflict, Book(LETTERS[:8]), []), ("TooMany", 7))
        self.assertEqual(raised(conflict, Book(TWELVE, [TWELVE]), [Tree(TWELVE)]), ("TooMany", 7))
        self.assertEqual(raised(conflict, Book(TWELVE, [TWELVE]), []), ("BadTelling", 0))
        for count in range(4):
            self.assertIsNone(conflict(Book(LETTERS[:count], [LETTERS[:count]] * 2), [Tree(LETTERS[:count])] * 2))


class TestFitByRoot(unittest.TestCase):
    def test_cases(self):
        seen = set()
        for at, plain in enumerate(books()):
            if not plain.names:
                continue
            root = plain.names[at % len(plain.names)]
            rows = [sorted({root, *row}) for row in plain.lists]
            every = trees_on(plain.names)
            for more in ([], [plain.names]):
                book = Book(plain.names, rows + more)
                tellings = some_tellings(book, 3, seed=at) + [true_telling(tree, book) for tree in every[::31]]
                for trees in tellings:
                    untold = [three for three in itertools.combinations([n for n in book.names if n != root], 3)
                              if not any(set(three) <= set(row) for row in book.lists)]
                    found = fitting_by_hand(book, trees)
                    if untold:
                        due = ("Untold", untold[0])
                    else:
                        self.assertLessEqual(len(found), 1)
                        due = None if found else ("NoTree",)
                    seen.add(due and due[0])
                    self.assertEqual(raised(fit_by_root, book, trees, root), due)
                    if due is None:
                        self.assertEqual(fit_by_root(book, trees, root), found[0])
                        self.assertEqual(fit_by_root(root=root, trees=tuple(trees), book=book), found[0])
        self.assertEqual(seen, {None, "NoTree", "Untold"})

    def test_large_books(self):
        book = Book(TWELVE, [TWELVE, TWELVE[:5]])
        for root in "afl":
            tree = caterpillar(12)
            if root == "a":
                self.assertEqual(fit_by_root(book, true_telling(tree, book), root), tree)
                self.assertEqual(raised(fit_by_root, book, [tree, Tree(TWELVE[:5])], root), ("NoTree",))
            else:
                whole = Book(TWELVE, [TWELVE])
                self.assertEqual(fit_by_root(whole, [tree], root), tree)
        self.assertEqual(raised(fit_by_root, Book(TWELVE), [], "b"), ("Untold", ("a", "c", "d")))

    def test_few_names(self):
        for count in range(1, 4):
            names = list(LETTERS[:count])
            self.assertEqual(fit_by_root(Book(names), [], "a"), Tree(names))
            self.assertEqual(fit_by_root(Book(names, [names, ["a"]]), [Tree(names), Tree(["a"])], "a"), Tree(names))

    def test_a_list_that_is_not_the_first_one_tells_something_else(self):
        book = Book(list("abcd"), [list("abcd"), list("abc"), list("abcd")])
        one, two = Tree(list("abcd"), [["a", "b"]]), Tree(list("abcd"))
        three = Tree(list("abc"))
        self.assertEqual(fit_by_root(book, [one, three, one], "b"), one)
        self.assertEqual(raised(fit_by_root, book, [one, three, two], "b"), ("NoTree",))
        self.assertEqual(raised(fit_by_root, book, [two, three, one], "b"), ("NoTree",))

    def test_errors(self):
        book = Book(list("abcde"), [list("abcd"), list("bcd"), list("abd"), list("ab"), []])
        good = [Tree(names) for names in book.lists]
        for value in ("A", "", 3, True, None):
            self.assertEqual(raised(fit_by_root, book, [], value), ("BadName", value))
        self.assertEqual(raised(fit_by_root, book, [], "z"), ("UnknownName", "z"))
        self.assertEqual(raised(fit_by_root, book, [], "a"), ("BadTelling", 0))
        for trees, at in told_wrong(book, good):
            self.assertEqual(raised(fit_by_root, book, trees, "c"), ("BadTelling", at))
        for root, at in (("a", 1), ("b", 4), ("c", 2), ("d", 3), ("e", 0)):
            self.assertEqual(raised(fit_by_root, book, good, root), ("NotInAll", at))
        # The first three that stands in no list counts, whatever the trees of the other threes tell.
        book = Book(list("abcde"), [list("abcd"), list("abcd"), list("abde")])
        trees = [Tree(list("abcd")), Tree(list("abcd"), [["a", "b"]]), Tree(list("abde"))]
        self.assertEqual(raised(fit_by_root, book, trees, "a"), ("Untold", ("b", "c", "e")))
        self.assertEqual(raised(fit_by_root, book, trees, "b"), ("Untold", ("a", "c", "e")))

    def test_arguments_stay(self):
        book, trees = Book(BOOK.names, BOOK.lists), list(true_telling(TREE, BOOK))
        answers = (fitting(book, trees), fit(book, trees), terrace(book, TREE), is_alone(book, TREE),
                   sure_tree(book, TREE), conflict(book, trees))
        self.assertEqual((book, trees), (BOOK, list(true_telling(TREE, BOOK))))
        self.assertEqual(answers, (fitting(book, trees), fit(book, trees), terrace(book, TREE), is_alone(book, TREE),
                                   sure_tree(book, TREE), conflict(book, trees)))


if __name__ == "__main__":
    unittest.main()
