"""Promises [23] to [25], [30] and the interface of fourmet/cutdown.py."""

import itertools
import unittest

from fourmet.books import Book
from fourmet.cutdown import alike, alike_on, cut_down, is_telling, strike, true_telling
from fourmet.places import places
from fourmet.trees import Tree
from helpers import LETTERS, THIRTEEN, TWELVE, caterpillar, every_tree, raised, statement

SIX = Tree(list("abcdef"), [["e", "f"], ["d", "e", "f"], ["b", "c"]])
BOOK = Book(list("abcde"), [["a", "b", "c", "d"], [], ["e", "b"], ["b", "c", "d", "e"], ["a", "b", "c", "d"]])


def subsets(names):
    return [part for size in range(len(names) + 1) for part in itertools.combinations(names, size)]


def says(tree, names):
    """What a tree says of all fours of these of its names."""
    return [statement(tree, four) for four in itertools.combinations(sorted(names), 4)]


class TestCutting(unittest.TestCase):
    def test_a_cut_says_what_the_tree_says(self):
        for tree in [tree for count in range(6) for tree in every_tree(count)] + every_tree(6)[::9]:
            for names in subsets(tree.names):
                told = cut_down(tree, names)
                self.assertEqual(told.names, names)
                self.assertEqual(says(told, names), says(tree, names))
                self.assertEqual(cut_down(names=list(names[::-1]), tree=tree), told)

    def test_edges(self):
        for tree in (SIX, Tree([]), Tree(["a"]), Tree(["a", "b"]), caterpillar(12), Tree(TWELVE)):
            self.assertEqual(cut_down(tree, []), Tree([]))
            self.assertEqual(cut_down(tree, tree.names), tree)
            self.assertEqual(cut_down(tree, tree.names[:3]), Tree(tree.names[:3]))

    def test_without_the_first_name(self):
        self.assertEqual(cut_down(SIX, list("bcdef")).splits, (("d", "e", "f"), ("e", "f")))
        self.assertEqual(cut_down(SIX, list("bcde")).splits, (("d", "e"),))
        self.assertEqual(cut_down(SIX, list("cdef")).splits, (("e", "f"),))
        self.assertEqual(cut_down(SIX, list("abde")).splits, (("d", "e"),))
        self.assertEqual(cut_down(SIX, list("def")).splits, ())

    def test_a_cut_of_a_cut(self):
        for tree in every_tree(6)[::17]:
            for first in subsets(tree.names)[::5]:
                for second in subsets(first):
                    self.assertEqual(cut_down(cut_down(tree, first), second), cut_down(tree, second))

    def test_places_of_a_cut(self):
        for tree in every_tree(6)[::11]:
            for names in subsets(tree.names):
                told = set()
                for place in places(tree):
                    ways = [tuple(name for name in way if name in names) for way in place]
                    if sum(way != () for way in ways) >= 3:
                        told.add(tuple(sorted(way for way in ways if way)))
                self.assertEqual(places(cut_down(tree, names)), tuple(sorted(told)))

    def test_errors(self):
        self.assertEqual(raised(cut_down, SIX, ["z", "a", "y"]), ("UnknownName", "y"))
        self.assertEqual(raised(cut_down, SIX, ["z", "a", "a"]), ("RepeatedName", "a"))
        self.assertEqual(raised(cut_down, SIX, ["z", "a", None]), ("BadName", None))
        self.assertEqual(raised(cut_down, SIX, THIRTEEN), ("TooMany", 12))
        self.assertEqual(raised(cut_down, Tree([]), ["a"]), ("UnknownName", "a"))

    def test_strike(self):
        for tree in [SIX, caterpillar(12), Tree(["a", "b"])] + every_tree(5):
            for name in tree.names:
                rest = [other for other in tree.names if other != name]
                self.assertEqual(strike(tree, name), cut_down(tree, rest))
                self.assertEqual(strike(name=name, tree=tree).names, tuple(rest))
        self.assertEqual(strike(Tree(["a"]), "a"), Tree([]))

    def test_strike_errors(self):
        self.assertEqual(raised(strike, SIX, "z"), ("UnknownName", "z"))
        self.assertEqual(raised(strike, Tree([]), "a"), ("UnknownName", "a"))
        for value in ("A", "", 2, True, None):
            self.assertEqual(raised(strike, SIX, value), ("BadName", value))

    def test_the_tree_stays(self):
        tree, names = Tree(SIX.names, SIX.splits), ["c", "a", "d", "b"]
        first = cut_down(tree, names)
        strike(tree, "a")
        raised(cut_down, tree, ["z"])
        self.assertEqual((tree, names, cut_down(tree, names)), (SIX, ["c", "a", "d", "b"], first))


class TestAlike(unittest.TestCase):
    def test_every_two_trees(self):
        for one, two in itertools.product(every_tree(5), repeat=2):
            for names in subsets(one.names):
                told = says(one, names) == says(two, names)
                self.assertIs(alike(one, two, names), told)
        self.assertIs(alike(names=["d", "c", "b", "a"], two=Tree(list("abcde"), [["c", "d"]]), one=SIX), False)
        self.assertIs(alike(names=("b", "d", "e", "a"), two=Tree(list("abcde"), [["e", "d"]]), one=SIX), True)

    def test_trees_with_other_names(self):
        one, two = Tree(list("abcde"), [["d", "e"]]), Tree(list("bcdefg"), [["d", "e"], ["f", "g"]])
        self.assertIs(alike(one, two, list("bcde")), True)
        self.assertIs(alike(one, two.without_split(["d", "e"]), list("bcde")), False)
        self.assertIs(alike(one, Tree([]), []), True)
        self.assertEqual(raised(alike, one, two, ["b", "z", "f", "g"]), ("UnknownName", "f"))
        self.assertEqual(raised(alike, one, two, ["b", "g", "a"]), ("UnknownName", "a"))
        self.assertEqual(raised(alike, two, one, ["b", "g", "a"]), ("UnknownName", "a"))
        self.assertEqual(raised(alike, one, two, ["z", "y"]), ("UnknownName", "y"))
        self.assertEqual(raised(alike, one, two, ["b", "a0", "a"]), ("UnknownName", "a"))
        self.assertEqual(raised(alike, one, two, ["z", "B"]), ("BadName", "B"))
        self.assertEqual(raised(alike, one, one, ["z"]), ("UnknownName", "z"))

    def test_alike_on_a_book(self):
        seen = []
        for one, two in itertools.product(every_tree(5), repeat=2):
            told = all(says(one, names) == says(two, names) for names in BOOK.lists)
            self.assertIs(alike_on(one, two, BOOK), told)
            self.assertIs(alike_on(book=BOOK, two=two, one=one), told)
            self.assertIs(alike_on(one, two, Book(BOOK.names)), True)
            self.assertIs(alike_on(one, two, Book(BOOK.names, [["a", "b", "c"], ["c", "d", "e"]])), True)
            self.assertIs(alike_on(one, two, Book(BOOK.names, [BOOK.names])), one == two)
            seen.append(told and one != two)
        self.assertIn(True, seen)

    def test_alike_on_errors(self):
        five, four = Tree(list("abcde")), Tree(list("abcd"))
        other = Tree(list("abcdf"))
        for one, two, book in ((five, five, Book(list("abcd"))), (four, five, BOOK), (five, four, BOOK),
                               (four, four, BOOK), (other, five, BOOK), (five, other, BOOK)):
            self.assertEqual(raised(alike_on, one, two, book), ("UnlikeNames",))
        self.assertEqual(raised(alike_on, five, other, Book([])), ("UnlikeNames",))


class TestTellings(unittest.TestCase):
    def test_true_telling(self):
        for tree in every_tree(5):
            told = true_telling(tree, BOOK)
            self.assertIs(type(told), tuple)
            self.assertEqual(told, tuple(cut_down(tree, names) for names in BOOK.lists))
            self.assertEqual(true_telling(book=BOOK, tree=tree), told)
            self.assertIs(is_telling(BOOK, told), True)
            self.assertIs(is_telling(trees=list(told), book=BOOK), True)
        self.assertEqual(true_telling(Tree(["a"]), Book(["a"])), ())

    def test_true_telling_errors(self):
        for tree in (Tree(list("abcd")), Tree(list("abcdf")), Tree(list("abcdef")), Tree([])):
            self.assertEqual(raised(true_telling, tree, BOOK), ("UnlikeNames",))
            self.assertEqual(raised(true_telling, tree, Book(["z"])), ("UnlikeNames",))

    def test_is_telling(self):
        told = [Tree(names) for names in BOOK.lists]
        self.assertIs(is_telling(BOOK, told), True)
        told[3] = Tree(list("bcde"), [["b", "c"]])
        self.assertIs(is_telling(BOOK, tuple(told)), True)
        for at in range(len(told)):
            self.assertIs(is_telling(BOOK, told[:at] + [Tree(["z"])] + told[at + 1:]), False)
            self.assertIs(is_telling(BOOK, told[:at] + told[at + 1:]), False)
            self.assertIs(is_telling(BOOK, told[:at]), False)
        self.assertIs(is_telling(BOOK, told + [Tree([])]), False)
        self.assertIs(is_telling(BOOK, told[::-1]), False)
        self.assertIs(is_telling(Book(["a"]), []), True)
        self.assertIs(is_telling(Book(["a"]), ()), True)
        self.assertIs(is_telling(Book(["a"]), [Tree([])]), False)
        self.assertIs(is_telling(Book([], [[]]), [Tree([])]), True)

    def test_arguments_stay(self):
        trees = [Tree(names) for names in BOOK.lists]
        is_telling(BOOK, trees)
        self.assertEqual(trees, [Tree(names) for names in BOOK.lists])
        self.assertEqual(LETTERS[:5], "".join(BOOK.names))


if __name__ == "__main__":
    unittest.main()
