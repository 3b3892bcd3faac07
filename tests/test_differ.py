"""Promise [33] and the interface of fourmet/differ.py."""

import itertools
import unittest

from fourmet.books import Book
from fourmet.differ import (distance, fours_in_lists, open_fours, told_distance, unlike_fours, unlike_lists,
                            unlike_splits)
from fourmet.trees import Tree
from helpers import LETTERS, TWELVE, caterpillar, every_tree, kinds, raised, same_sayings, some_books, statement

ROWS = [list("abcd"), list("bcde"), [], list("ace"), list("abcd"), list("abcde"), list("edca")]
BOOK = Book(list("abcde"), ROWS)
BIG = [Tree(TWELVE), caterpillar(12), Tree(TWELVE, [["b", "c", "d"], ["k", "l"]])]
STRANGERS = [Tree(list("abcd")), Tree(list("abcdf")), Tree(list("abcdef")), Tree([])]


def pairs_of_trees():
    """Pairs of trees on equal names: all with up to five names, some with six and with twelve."""
    for count in range(6):
        yield from itertools.product(every_tree(count), repeat=2)
    yield from itertools.product(every_tree(6)[::17], every_tree(6)[::11])
    yield from itertools.product(BIG, repeat=2)


class TestFoursAndSplits(unittest.TestCase):
    def test_unlike_fours(self):
        for one, two in pairs_of_trees():
            told = tuple(four for four in itertools.combinations(one.names, 4)
                         if statement(one, four) != statement(two, four))
            self.assertEqual(unlike_fours(one, two), told)
            self.assertEqual(told == (), one == two)

    def test_unlike_splits(self):
        for one, two in pairs_of_trees():
            found = unlike_splits(one, two)
            self.assertEqual(found, (tuple(sorted(set(one.splits) - set(two.splits))),
                                     tuple(sorted(set(two.splits) - set(one.splits)))))
            self.assertEqual(found == ((), ()), one == two)

    def test_examples(self):
        one = Tree(list("abcde"), [["d", "e"], ["b", "c"]])
        two = Tree(list("abcde"), [["d", "e"], ["c", "d", "e"]])
        self.assertEqual(unlike_fours(one, two), (("a", "b", "c", "d"), ("a", "b", "c", "e")))
        self.assertEqual(unlike_splits(one, two), ((("b", "c"),), (("c", "d", "e"),)))
        self.assertEqual(unlike_splits(two=one, one=two), ((("c", "d", "e"),), (("b", "c"),)))
        self.assertEqual(unlike_fours(two=one, one=two), unlike_fours(one, two))
        # A statement and None are not the same.
        self.assertEqual(unlike_fours(Tree(list("abcd")), Tree(list("abcd"), [["c", "d"]])), (tuple("abcd"),))
        self.assertEqual(kinds(unlike_splits(one, two)), (tuple, ((tuple, ((tuple, (str,) * 2),)),
                                                                  (tuple, ((tuple, (str,) * 3),)))))
        self.assertEqual(kinds(unlike_fours(one, two)), (tuple, ((tuple, (str,) * 4),) * 2))
        for count in range(4):
            tree = Tree(list(LETTERS[:count]))
            self.assertEqual((unlike_fours(tree, tree), unlike_splits(tree, tree)), ((), ((), ())))

    def test_errors(self):
        five = Tree(list("abcde"))
        for call in (unlike_fours, unlike_splits):
            for other in STRANGERS:
                self.assertEqual(raised(call, five, other), ("UnlikeNames",))
                self.assertEqual(raised(call, other, five), ("UnlikeNames",))


class TestLists(unittest.TestCase):
    def test_all_trees_of_five_names(self):
        for one, two in itertools.product(every_tree(5), repeat=2):
            told = tuple(at for at, names in enumerate(BOOK.lists) if not same_sayings(one, two, names))
            self.assertEqual(unlike_lists(BOOK, one, two), told)
            self.assertEqual(distance(BOOK, one, two), len(told))

    def test_other_sizes(self):
        for count, many in ((4, 6), (6, 6), (12, 2)):
            trees = BIG if count == 12 else every_tree(count)[::9]
            for book in some_books(many, count):
                for one, two in itertools.product(trees, repeat=2):
                    told = tuple(at for at, names in enumerate(book.lists) if not same_sayings(one, two, names))
                    self.assertEqual(unlike_lists(two=two, one=one, book=book), told)
                    self.assertEqual(distance(two=two, one=one, book=book), len(told))

    def test_equal_lists_each_count(self):
        one, two = Tree(list("abcde"), [["d", "e"]]), Tree(list("abcde"))
        book = Book(list("abcde"), [list("abde")] * 12)
        self.assertEqual(unlike_lists(book, one, two), tuple(range(12)))
        self.assertEqual(distance(book, one, two), 12)
        self.assertEqual(kinds(unlike_lists(book, one, two)), (tuple, (int,) * 12))
        self.assertIs(type(distance(book, one, one)), int)

    def test_books_without_lists_and_few_names(self):
        for count in range(7):
            names = list(LETTERS[:count])
            trees = every_tree(count)
            for book in (Book(names), Book(names, [names[:3], []])):
                self.assertEqual(unlike_lists(book, trees[0], trees[-1]), ())
                self.assertEqual(distance(book, trees[0], trees[-1]), 0)

    def test_errors(self):
        five = Tree(list("abcde"))
        for call in (unlike_lists, distance):
            for other in STRANGERS:
                for book, one, two in ((BOOK, five, other), (BOOK, other, five), (BOOK, other, other),
                                       (Book(other.names), five, five)):
                    self.assertEqual(raised(call, book, one, two), ("UnlikeNames",))


class TestToldDistance(unittest.TestCase):
    def test_trees_at_equal_indexes(self):
        four = every_tree(4)
        told = [Tree([]), four[0], four[1], Tree(list("abce")), four[2]]
        others = [Tree([]), four[0], four[2], four[0], four[1]]
        for kind, other_kind in itertools.product((list, tuple), repeat=2):
            self.assertEqual(told_distance(kind(told), other_kind(others)), 3)
            self.assertEqual(told_distance(others=other_kind(told), trees=kind(told)), 0)
        self.assertEqual(told_distance([], ()), 0)
        self.assertIs(type(told_distance([], [])), int)

    def test_names_that_differ(self):
        self.assertEqual(told_distance([Tree(["a"]), Tree([])], [Tree(["b"]), Tree(["a"])]), 2)
        self.assertEqual(told_distance([Tree(list("abcd"), [["c", "d"]])], [Tree(list("abcde"), [["c", "d"]])]), 1)

    def test_errors(self):
        tree = Tree([])
        for one, two in itertools.permutations(range(5), 2):
            self.assertEqual(raised(told_distance, [tree] * one, (tree,) * two), ("WrongCount", two))

    def test_arguments_stay(self):
        told, others = [Tree(["a"]), Tree([])], [Tree(["b"]), Tree([])]
        for _ in range(2):
            self.assertEqual(told_distance(told, others), 1)
        self.assertEqual((told, others), ([Tree(["a"]), Tree([])], [Tree(["b"]), Tree([])]))


class TestFoursOfBooks(unittest.TestCase):
    def test_books_of_each_size(self):
        for count in range(13):
            for book in some_books(4, count) + [Book(list(LETTERS[:count]))]:
                fours = list(itertools.combinations(book.names, 4))
                told = tuple(four for four in fours if any(set(four) <= set(names) for names in book.lists))
                rest = tuple(four for four in fours if four not in told)
                self.assertEqual((fours_in_lists(book), open_fours(book)), (told, rest))
                self.assertEqual((fours_in_lists(book=book), open_fours(book=book)), (told, rest))

    def test_examples(self):
        book = Book(list("abcde"), [list("abcd"), list("ab"), list("dcba"), list("bcde")])
        self.assertEqual(fours_in_lists(book), (tuple("abcd"), tuple("bcde")))
        self.assertEqual(open_fours(book), (tuple("abce"), tuple("abde"), tuple("acde")))
        self.assertEqual(fours_in_lists(Book(TWELVE, [TWELVE])), tuple(itertools.combinations(TWELVE, 4)))
        self.assertEqual(open_fours(Book(TWELVE, [TWELVE])), ())
        self.assertEqual(kinds(open_fours(book)[0]), (tuple, (str,) * 4))

    def test_the_book_stays(self):
        book = Book(list("abcde"), ROWS)
        first = (fours_in_lists(book), open_fours(book), distance(book, Tree(book.names), Tree(book.names)))
        self.assertEqual((fours_in_lists(book), open_fours(book), distance(book, Tree(book.names), Tree(book.names))),
                         first)
        self.assertEqual(book, BOOK)


if __name__ == "__main__":
    unittest.main()
