"""Promises [45], [47], [25] and the interface of fourmet/lies.py; [54] for confusions."""

import itertools
import random
import unittest

from fourmet.books import Book
from fourmet.bothtrees import both_trees
from fourmet.cutdown import cut_down, true_telling
from fourmet.lies import confusion, is_confusion, lying_lists, told_with_lies
from fourmet.losses import bears
from fourmet.trees import Tree
from helpers import (LETTERS, TWELVE, caterpillar, every_tree, is_lie, kinds, meetings, one_paper_of_each_kind,
                     partings_of, raised, some_books, some_tellings, told_wrong, trees_on)

BOOK = Book(list("abcde"), [list("abcd"), list("abcde"), [], list("abce"), list("abc"), list("abcde")])
TREE = Tree(list("abcde"), [["d", "e"], ["c", "d", "e"]])
NUMBERS = (-1, 13, 10 ** 30, True, False, None, "1")


def books():
    """Books of all sizes up to seven names, without lists, with equal lists, with short ones."""
    for count in range(8):
        names = list(LETTERS[:count])
        yield from [Book(names), Book(names, [names] * 3), Book(names, [names] * 12), Book(names, [names] * 5 + [[]])]
        yield from some_books(4, count, seed=21)


def liars(book, trees, tree):
    return tuple(at for at, told in enumerate(trees) if is_lie(tree, told))


def made_by_hand(book, lost, lying):
    """The confusion of [47], step by step; None if there is none."""
    times = [len(meetings(book, parting)) for parting in partings_of(book.names)]
    if not times or min(times) >= lost + 2 * lying + 1:
        return None
    parting = partings_of(book.names)[times.index(min(times))]
    first, second = both_trees(parting)
    using = list(meetings(book, parting))
    gone, rest = using[:lost], using[lost:]
    told = []
    for at, names in enumerate(book.lists):
        if at in gone:
            continue
        if at in rest:
            told.append(cut_down(first if rest.index(at) < len(rest) // 2 else second, names))
        else:
            told.append(cut_down(first, names))
    return ("confused", tuple(gone), first, second, tuple(told))


def right_by_hand(book, paper, lost, lying):
    """Whether a confusion is right, by the words of [47]."""
    word, indexes, first, second, trees = paper
    if any(at not in range(len(book)) for at in indexes) or len(set(indexes)) != len(indexes) or len(indexes) > lost:
        return False
    left = [names for at, names in enumerate(book.lists) if at not in indexes]
    if [tree.names for tree in trees] != left or {first.names, second.names} != {book.names}:
        return False
    wrong = [len(liars(book, trees, tree)) for tree in (first, second)]
    return word == "confused" and first.splits != second.splits and max(wrong) <= lying


class TestLyingLists(unittest.TestCase):
    def test_trees_and_tellings(self):
        for book in [BOOK, Book(list("abcd"), [list("abcd")] * 3), Book(list("abcde"))] + some_books(3, 6, seed=22):
            for trees in some_tellings(book, 4, seed=1):
                for tree in trees_on(book.names)[::5]:
                    told = liars(book, trees, tree)
                    self.assertEqual(lying_lists(book, trees, tree), told)
                    self.assertEqual(lying_lists(tree=tree, trees=tuple(trees), book=book), told)

    def test_short_lists_cannot_lie(self):
        book = Book(list("abcd"), [[], ["a"], ["b", "d"], ["a", "c", "d"]])
        for tree in every_tree(4):
            self.assertEqual(lying_lists(book, [Tree(names) for names in book.lists], tree), ())

    def test_examples(self):
        trees = list(true_telling(TREE, BOOK))
        self.assertEqual(lying_lists(BOOK, trees, TREE), ())
        trees[0] = Tree(list("abcd"))
        trees[5] = Tree(list("abcde"), [["d", "e"]])
        self.assertEqual(lying_lists(BOOK, trees, TREE), (0, 5))
        self.assertEqual(kinds(lying_lists(BOOK, trees, TREE)), (tuple, (int, int)))
        self.assertEqual(lying_lists(Book([]), [], Tree([])), ())
        large = Book(TWELVE, [TWELVE, TWELVE[3:]])
        self.assertEqual(lying_lists(large, [caterpillar(12), Tree(TWELVE[3:])], caterpillar(12)), (1,))

    def test_errors(self):
        good = true_telling(TREE, BOOK)
        for trees, at in told_wrong(BOOK, good):
            self.assertEqual(raised(lying_lists, BOOK, trees, TREE), ("BadTelling", at))
            for other in (Tree(list("abcd")), Tree(list("abcdf")), Tree([])):
                self.assertEqual(raised(lying_lists, BOOK, trees, other), ("UnlikeNames",))
        self.assertEqual(raised(lying_lists, BOOK, good, Tree(list("abcdef"))), ("UnlikeNames",))
        self.assertEqual(raised(lying_lists, Book([]), [Tree([])], Tree([])), ("BadTelling", 0))
        self.assertEqual(raised(lying_lists, Book([], [[]]), [], Tree([])), ("BadTelling", 0))


class TestToldWithLies(unittest.TestCase):
    def test_all_lies_at_one_list(self):
        for at, names in enumerate(BOOK.lists):
            for lie in trees_on(names):
                told = list(true_telling(TREE, BOOK))
                told[at] = lie
                self.assertEqual(told_with_lies(BOOK, TREE, [(at, lie)]), tuple(told))
                self.assertEqual(told_with_lies(lies=([at, lie],), tree=TREE, book=BOOK), tuple(told))
                expected = (at,) if is_lie(TREE, lie) else ()
                self.assertEqual(lying_lists(BOOK, told_with_lies(BOOK, TREE, [[at, lie]]), TREE), expected)

    def test_the_last_of_several_counts(self):
        one, two, three = trees_on(tuple("abcd"))[:3]
        told = told_with_lies(BOOK, TREE, [(0, one), (3, Tree(list("abce"))), (0, two), (0, three)])
        self.assertEqual(told[0], three)
        self.assertEqual(told[3], Tree(list("abce")))
        self.assertEqual((told[1:3], told[4:]), (true_telling(TREE, BOOK)[1:3], true_telling(TREE, BOOK)[4:]))
        self.assertEqual(told_with_lies(BOOK, TREE, [(0, three), (0, cut_down(TREE, list("abcd")))]),
                         true_telling(TREE, BOOK))
        self.assertIs(type(told), tuple)

    def test_no_lies(self):
        self.assertEqual(told_with_lies(BOOK, TREE, []), true_telling(TREE, BOOK))
        self.assertEqual(told_with_lies(Book(["a"]), Tree(["a"]), ()), ())

    def test_errors(self):
        good, bad = Tree(list("abcd")), Tree(list("abc"))
        for value in (-1, 6, 10 ** 30, True, False, None, "0"):
            for lies in ([(value, good)], [(0, good), (value, bad)], [(3, bad), (value, good), (-5, good)]):
                self.assertEqual(raised(told_with_lies, BOOK, TREE, lies), ("BadNumber", value))
                self.assertEqual(raised(told_with_lies, BOOK, Tree([]), lies), ("BadNumber", value))
        self.assertEqual(raised(told_with_lies, Book(["a"]), Tree(["a"]), [(0, Tree([]))]), ("BadNumber", 0))
        for lies, at in (([(0, bad)], 0), ([(0, good), (3, good), (1, good)], 3), ([(5, good), (0, bad)], 5),
                         ([(0, bad), (0, good)], 0), ([(0, good), (0, bad)], 0), ([(4, good)], 4),
                         ([(2, bad), (2, Tree([]))], 2), ([(3, Tree(list("abce"))), (0, Tree(TWELVE))], 0)):
            self.assertEqual(raised(told_with_lies, BOOK, TREE, lies), ("BadTelling", at))
            self.assertEqual(raised(told_with_lies, BOOK, Tree(list("abcd")), lies), ("UnlikeNames",))
        self.assertEqual(raised(told_with_lies, BOOK, Tree(list("abcdf")), []), ("UnlikeNames",))

    def test_arguments_stay(self):
        lies = [[0, Tree(list("abcd"))], [0, Tree(list("abcd"), [["b", "c"]])]]
        copy = [list(pair) for pair in lies]
        told = told_with_lies(BOOK, TREE, lies)
        self.assertEqual(lies, copy)
        lies[1][1] = Tree(list("abcd"))
        lies.append([1, Tree(list("abcde"))])
        self.assertEqual(told, told_with_lies(BOOK, TREE, copy))


class TestConfusion(unittest.TestCase):
    def test_books_and_numbers(self):
        for book in books():
            numbers = range(13) if len(book.names) <= 5 else (0, 1, 2, 5, 12)
            for lost, lying in itertools.product(numbers, repeat=2):
                told = made_by_hand(book, lost, lying)
                found = confusion(book, lost=lost, lying=lying)
                self.assertEqual(found, told)
                self.assertIs(found is None, bears(book, lost=lost, lying=lying))
                if found is not None:
                    self.assertIs(right_by_hand(book, found, lost, lying), True)
                    self.assertIs(is_confusion(book, found, lost=lost, lying=lying), True)
                    self.assertIs(is_confusion(lying=lying, paper=found, lost=lost, book=book), True)

    def test_defaults(self):
        for book in books():
            self.assertEqual(confusion(book), confusion(book=book, lost=0, lying=0))
            self.assertEqual(confusion(book, lost=1), confusion(book, lying=0, lost=1))
            self.assertEqual(confusion(book, lying=1), confusion(book, lying=1, lost=0))
            paper = confusion(book, lost=1, lying=2)
            if paper is not None:
                for lost, lying in ((0, 0), (1, 0), (0, 2)):
                    told = right_by_hand(book, paper, lost, lying)
                    self.assertIs(is_confusion(book, paper, lost=lost, lying=lying), told)
                self.assertIs(is_confusion(book, paper), right_by_hand(book, paper, 0, 0))
                self.assertIs(is_confusion(book, paper, lost=1), right_by_hand(book, paper, 1, 0))
                self.assertIs(is_confusion(book, paper, lying=2), right_by_hand(book, paper, 0, 2))

    def test_odd_numbers_of_lists(self):
        book = Book(list("abcd"), [list("abcd"), list("abc")] + [list("abcd")] * 4)
        first, second = both_trees((("a",), ("b",), ("c",), ("d",)))
        rest = Tree(list("abc"))
        self.assertEqual(confusion(book, lying=3), ("confused", (), first, second,
                                                    (first, rest, first, second, second, second)))
        self.assertEqual(confusion(book, lost=1, lying=2), ("confused", (0,), first, second,
                                                            (rest, first, first, second, second)))
        self.assertEqual(confusion(book, lost=2, lying=2), ("confused", (0, 2), first, second,
                                                            (rest, first, second, second)))
        self.assertEqual(confusion(book, lost=4, lying=1), ("confused", (0, 2, 3, 4), first, second, (rest, second)))
        self.assertEqual(confusion(book, lost=5), ("confused", (0, 2, 3, 4, 5), first, second, (rest,)))
        self.assertEqual(confusion(book, lost=12), ("confused", (0, 2, 3, 4, 5), first, second, (rest,)))
        self.assertIsNone(confusion(book, lost=4))
        self.assertIsNone(confusion(book, lying=2))
        self.assertEqual(kinds(confusion(book, lost=2, lying=2)),
                         (tuple, (str, (tuple, (int, int)), Tree, Tree, (tuple, (Tree,) * 4))))

    def test_no_lists_and_few_names(self):
        first, second = both_trees((("a",), ("b",), ("c",), ("d",)))
        self.assertEqual(confusion(Book(list("abcd"))), ("confused", (), first, second, ()))
        self.assertEqual(confusion(Book(list("abcd")), lost=12, lying=12), ("confused", (), first, second, ()))
        for count in range(4):
            self.assertIsNone(confusion(Book(LETTERS[:count], [LETTERS[:count]]), lost=12, lying=12))
            self.assertIsNone(confusion(Book(LETTERS[:count])))

    def test_errors(self):
        for value in NUMBERS:
            for book in (BOOK, Book([]), Book(TWELVE)):
                self.assertEqual(raised(confusion, book, lost=value), ("BadNumber", value))
                self.assertEqual(raised(confusion, book, lying=value), ("BadNumber", value))
                self.assertEqual(raised(confusion, book, lying=-7, lost=value), ("BadNumber", value))
        self.assertIsNone(raised(confusion, Book(LETTERS[:7])))
        self.assertEqual(raised(confusion, Book(LETTERS[:8])), ("TooMany", 7))
        self.assertEqual(raised(confusion, Book(TWELVE, [TWELVE] * 12)), ("TooMany", 7))


class TestIsConfusion(unittest.TestCase):
    def test_all_papers_of_a_small_book(self):
        """[45] and [47]: every telling, every two trees, every choice of lost lists."""
        book = Book(list("abcd"), [list("abcd"), list("abd"), list("dcba")])
        trees = every_tree(4)
        some = {"right": 0, "wrong": 0}
        for size in range(4):
            for indexes in itertools.permutations(range(3), size):
                left = [names for at, names in enumerate(book.lists) if at not in indexes]
                for told in itertools.product(*[trees_on(names) for names in left]):
                    for first, second in itertools.product(trees, repeat=2):
                        paper = ("confused", indexes, first, second, told)
                        for lost, lying in ((0, 1), (1, 0), (2, 1), (1, 1)):
                            right = right_by_hand(book, paper, lost, lying)
                            some["right" if right else "wrong"] += 1
                            self.assertIs(is_confusion(book, paper, lost=lost, lying=lying), right)
        self.assertGreater(min(some.values()), 100)

    def test_a_confusion_exists_exactly_if_the_book_does_not_bear(self):
        trees = every_tree(4)
        for many in range(4):
            book = Book(list("abcd"), [list("abcd")] * many + [list("bcd")])
            for lost, lying in itertools.product(range(3), range(2)):
                found = False
                for gone in range(min(lost, many) + 1):
                    for told in itertools.product(trees, repeat=many - gone):
                        found = found or any(
                            is_confusion(book, ("confused", tuple(range(gone)), one, two, told + (Tree(list("bcd")),)),
                                         lost=lost, lying=lying) for one, two in itertools.permutations(trees, 2))
                self.assertIs(found, not bears(book, lost=lost, lying=lying))

    def test_spoilt_indexes(self):
        word, indexes, first, second, trees = paper = confusion(BOOK, lost=2)
        self.assertIs(is_confusion(BOOK, paper, lost=2), True)
        self.assertIs(is_confusion(BOOK, (word, indexes[::-1], first, second, trees), lost=2), True)
        self.assertEqual(len(indexes), len(set(indexes)))
        for more in ((-1,), (6,), (10 ** 30,), (-10 ** 30,), indexes[:1], (2,), (-6,)):
            for wrong in (indexes + more, more + indexes):
                self.assertIs(is_confusion(BOOK, (word, wrong, first, second, trees), lost=12), False)
        for wrong in (indexes[1:], (), (0, 1, 2, 3, 4, 5, 6), tuple(at - 6 for at in indexes)):
            self.assertIs(is_confusion(BOOK, (word, wrong, first, second, trees), lost=12), False)
        self.assertIs(is_confusion(BOOK, paper, lost=len(indexes) - 1, lying=12), False)
        self.assertIs(is_confusion(BOOK, (word, (2,) + indexes, first, second, trees[:1] + trees[2:]), lost=12),
                      right_by_hand(BOOK, (word, (2,) + indexes, first, second, trees[:1] + trees[2:]), 12, 0))

    def test_spoilt_trees(self):
        word, indexes, first, second, trees = confusion(BOOK, lost=1, lying=1)
        self.assertIs(is_confusion(BOOK, (word, indexes, second, first, trees), lost=1, lying=1), True)
        for one, two in ((first, first), (second, second), (Tree(list("abcd")), second), (first, Tree(list("abcdf"))),
                         (Tree([]), Tree([])), (first, Tree(list("abcdef"))), (Tree(TWELVE), second)):
            self.assertIs(is_confusion(BOOK, (word, indexes, one, two, trees), lost=1, lying=12), False)
        for told in (trees[:-1], trees[1:], (), trees + trees[-1:], trees + (Tree([]),), trees[::-1],
                     trees[:1] + (Tree(["zz"]),) + trees[2:], (Tree(TWELVE),) * len(trees)):
            self.assertIs(is_confusion(BOOK, (word, indexes, first, second, told), lost=1, lying=12), False)
        for at in range(len(trees)):
            for other in trees_on(trees[at].names):
                paper = (word, indexes, first, second, trees[:at] + (other,) + trees[at + 1:])
                for lying in (0, 1, 2):
                    told = right_by_hand(BOOK, paper, 1, lying)
                    self.assertIs(is_confusion(BOOK, paper, lost=1, lying=lying), told)

    def test_more_lies_than_the_number_allows(self):
        book = Book(list("abcd"), [list("abcd")] * 4)
        paper = confusion(book, lying=2)
        self.assertIs(is_confusion(book, paper, lying=2), True)
        self.assertIs(is_confusion(book, paper, lying=1), False)
        self.assertIs(is_confusion(book, paper), False)
        self.assertIs(is_confusion(book, paper, lying=12), True)

    def test_right_papers_that_are_not_made(self):
        book = Book(TWELVE, [TWELVE, TWELVE[:4], TWELVE])
        one, two = caterpillar(12), Tree(TWELVE)
        told = true_telling(one, book)
        self.assertIs(is_confusion(book, ("confused", (), one, two, told), lying=3), True)
        self.assertIs(is_confusion(book, ("confused", (), one, two, told), lying=2), False)
        self.assertIs(is_confusion(book, ("confused", (2, 0), one, two, told[1:2]), lost=2, lying=1), True)
        source = random.Random(5)
        for book in some_books(4, 6, seed=23):
            for trees in some_tellings(book, 3, seed=2):
                one, two = source.sample(trees_on(book.names), 2)
                lying = max(len(liars(book, trees, tree)) for tree in (one, two))
                for number in range(13):
                    paper = ("confused", (), one, two, tuple(trees))
                    self.assertIs(is_confusion(book, paper, lying=number), number >= lying)

    def test_other_papers(self):
        for book in (BOOK, Book([]), Book(list("abcd")), Book(TWELVE)):
            for paper in one_paper_of_each_kind(BOOK)[:4] + [("tells", ()), ("rooted", "a", ()), ("loss", (), ())]:
                self.assertIs(is_confusion(book, paper, lost=12, lying=12), False)
        self.assertIs(is_confusion(Book(TWELVE), one_paper_of_each_kind(BOOK)[4], lost=12, lying=12), False)
        one = Tree(["a"])
        self.assertIs(is_confusion(Book(["a"]), ("confused", (), one, one, ()), lost=12, lying=12), False)

    def test_numbers_are_checked_for_every_paper(self):
        for paper in one_paper_of_each_kind(BOOK) + [confusion(BOOK, lost=12)]:
            for value in NUMBERS:
                for book in (BOOK, Book([]), Book(TWELVE)):
                    self.assertEqual(raised(is_confusion, book, paper, lost=value), ("BadNumber", value))
                    self.assertEqual(raised(is_confusion, book, paper, lying=value), ("BadNumber", value))
                    self.assertEqual(raised(is_confusion, book, paper, lying=99, lost=value), ("BadNumber", value))
            self.assertIsNone(raised(is_confusion, Book(TWELVE), paper, lost=12, lying=12))

    def test_books_and_papers_stay(self):
        book = Book(BOOK.names, BOOK.lists)
        paper = confusion(book, lost=1, lying=1)
        for _ in range(2):
            self.assertIs(is_confusion(book, paper, lost=1, lying=1), True)
            self.assertEqual(confusion(book, lost=1, lying=1), paper)
            self.assertEqual(paper, made_by_hand(BOOK, 1, 1))
        self.assertEqual(book, BOOK)


if __name__ == "__main__":
    unittest.main()
