"""Promises [37], [38] and the interface of fourmet/bothtrees.py."""

import itertools
import unittest

from fourmet.bothtrees import alike_pair, both_trees, closest_pair, is_alike_pair, lot_tree
from fourmet.books import Book
from fourmet.differ import distance
from fourmet.trees import Tree
from helpers import (BIG, FAULTY, LETTERS, MESSY, SEVEN, TWELVE, every_tree, in_each, kinds, meetings, partings_of,
                     raised, same_sayings, some_books)


def lots_by_hand(parting, beside):
    """The lot tree of a parting in its held form, by the document's words."""
    names = [name for lot in parting for name in lot]
    sides = [lot for lot in parting if len(lot) >= 2]
    if beside is not None:
        sides.append(parting[0] + parting[beside])
    return Tree(names, sides)


def distance_by_hand(book, one, two):
    return sum(not same_sayings(one, two, names) for names in book.lists)


class TestLotTree(unittest.TestCase):
    def test_every_parting(self):
        for count in range(4, 8):
            for parting in partings_of(tuple(LETTERS[:count])):
                for beside in (None, 1, 2, 3):
                    told = lots_by_hand(parting, beside)
                    self.assertEqual(lot_tree(parting, beside=beside), told)
                    self.assertEqual(lot_tree(beside=beside, parting=parting[::-1]), told)
                self.assertEqual(lot_tree(parting), lots_by_hand(parting, None))
                self.assertEqual(both_trees(parting), (lots_by_hand(parting, 1), lots_by_hand(parting, 2)))

    def test_examples(self):
        self.assertEqual(lot_tree([["d"], ["c"], ["b"], ["a"]]), Tree(list("abcd")))
        self.assertEqual(lot_tree([["d"], ["c"], ["b"], ["a"]], beside=1), Tree(list("abcd"), [["c", "d"]]))
        self.assertEqual(lot_tree([["d"], ["c"], ["b"], ["a"]], beside=2), Tree(list("abcd"), [["b", "d"]]))
        self.assertEqual(lot_tree([["d"], ["c"], ["b"], ["a"]], beside=3), Tree(list("abcd"), [["b", "c"]]))
        # A lot with the first name is a side that is held as all other names.
        self.assertEqual(lot_tree([["a", "b", "c"], ["d"], ["e"], ["f"]]).splits, (("d", "e", "f"),))
        self.assertEqual(lot_tree(BIG, beside=3), lots_by_hand(BIG, 3))

    def test_orders(self):
        for lots in itertools.permutations(MESSY):
            for beside in (None, 1, 2, 3):
                self.assertEqual(lot_tree(lots, beside=beside), lots_by_hand(SEVEN, beside))
            self.assertEqual(both_trees(list(lots)), both_trees(SEVEN))
            self.assertEqual(both_trees(parting=lots), both_trees(SEVEN))

    def test_errors(self):
        for lots, told in FAULTY:
            self.assertEqual(raised(lot_tree, lots), told)
            self.assertEqual(raised(lot_tree, lots, beside=0), told)
            self.assertEqual(raised(both_trees, lots), told)
        for value in (0, 4, -1, True, False, "1"):
            self.assertEqual(raised(lot_tree, SEVEN, beside=value), ("BadNumber", value))

    def test_kinds(self):
        self.assertEqual(kinds(both_trees(SEVEN)), (tuple, (Tree, Tree)))

    def test_arguments_stay(self):
        lots = [["g", "d", "c"], ["e"], ["f", "a"], ["b"]]
        first = both_trees(lots)
        self.assertEqual(lots, [["g", "d", "c"], ["e"], ["f", "a"], ["b"]])
        lots[0].append("z")
        self.assertEqual(first, both_trees(SEVEN))


class TestBothTreesOnLists(unittest.TestCase):
    def test_alike_exactly_on_lists_that_do_not_meet(self):
        for count in (4, 5, 6):
            names = LETTERS[:count]
            rows = [row for size in range(count + 1) for row in itertools.combinations(names, size)]
            for parting in partings_of(tuple(names)):
                one, two = both_trees(parting)
                self.assertNotEqual(one, two)
                for row in rows:
                    self.assertEqual(same_sayings(one, two, row), not in_each(row, parting))

    def test_their_distance_is_the_times(self):
        for count in (4, 5, 6, 7):
            for book in some_books(3, count):
                for parting in partings_of(book.names)[::4]:
                    one, two = both_trees(parting)
                    self.assertEqual(distance_by_hand(book, one, two), len(meetings(book, parting)))
                    self.assertEqual(distance(book, one, two), len(meetings(book, parting)))
        book = some_books(1, 12)[0]
        self.assertEqual(distance_by_hand(book, *both_trees(BIG)), len(meetings(book, BIG)))
        self.assertEqual(distance(book, *both_trees(BIG)), len(meetings(book, BIG)))


class TestPairsOfBooks(unittest.TestCase):
    def books(self):
        for count in range(8):
            names = list(LETTERS[:count])
            yield from [Book(names), Book(names, [names] * 2), Book(names, [names[1:], names[:3]])]
            yield from some_books(8, count, seed=2)

    def test_closest_and_alike_pair(self):
        alike = 0
        for book in self.books():
            times = [len(meetings(book, parting)) for parting in partings_of(book.names)]
            if not times:
                self.assertIsNone(closest_pair(book))
                self.assertIsNone(alike_pair(book))
                continue
            least = partings_of(book.names)[times.index(min(times))]
            number, first, second = closest_pair(book)
            self.assertEqual((number, first, second), (min(times), *both_trees(least)))
            self.assertEqual(distance_by_hand(book, first, second), number)
            self.assertEqual(closest_pair(book=book), closest_pair(book))
            self.assertEqual(alike_pair(book), both_trees(least) if min(times) == 0 else None)
            self.assertEqual(alike_pair(book=book), alike_pair(book))
            self.assertIs(is_alike_pair(book, first, second), number == 0)
            alike += number == 0
        self.assertGreater(alike, 5)
        self.assertEqual(kinds(closest_pair(Book(list("abcd")))), (tuple, (int, Tree, Tree)))
        self.assertEqual(kinds(alike_pair(Book(list("abcd")))), (tuple, (Tree, Tree)))

    def test_examples(self):
        one, two = Tree(list("abcd"), [["c", "d"]]), Tree(list("abcd"), [["b", "d"]])
        self.assertEqual(closest_pair(Book(list("abcd"))), (0, one, two))
        self.assertEqual(alike_pair(Book(list("abcd"))), (one, two))
        self.assertEqual(closest_pair(Book(list("abcd"), [list("abcd")] * 3)), (3, one, two))
        self.assertIsNone(alike_pair(Book(list("abcd"), [list("abcd")])))

    def test_seven_names_and_eight(self):
        for call in (closest_pair, alike_pair):
            self.assertIsNotNone(call(Book(LETTERS[:7])))
            self.assertEqual(raised(call, Book(LETTERS[:8])), ("TooMany", 7))
            self.assertEqual(raised(call, Book(TWELVE, [TWELVE])), ("TooMany", 7))

    def test_is_alike_pair(self):
        for book in some_books(6, 5, most=4, seed=6):
            for one, two in itertools.product(every_tree(5), repeat=2):
                told = one != two and all(same_sayings(one, two, names) for names in book.lists)
                self.assertIs(is_alike_pair(book, one, two), told)
            self.assertIs(is_alike_pair(two=two, one=one, book=book), told)

    def test_is_alike_pair_raises_nothing(self):
        book = Book(list("abcde"))
        one, two = Tree(list("abcde")), Tree(list("abcde"), [["d", "e"]])
        self.assertIs(is_alike_pair(book, one, two), True)
        self.assertIs(is_alike_pair(book, two, one), True)
        self.assertIs(is_alike_pair(book, two, two), False)
        for other in (Tree([]), Tree(list("abcd")), Tree(list("abcdef")), Tree(list("abcdf"), [["d", "f"]])):
            self.assertIs(is_alike_pair(book, one, other), False)
            self.assertIs(is_alike_pair(book, other, one), False)
            self.assertIs(is_alike_pair(book, other, other), False)
            self.assertIs(is_alike_pair(Book(other.names), one, two), False)
        self.assertIs(is_alike_pair(Book(list("abcd")), Tree(list("abce")), Tree(list("abce"), [["c", "e"]])), False)
        self.assertIs(is_alike_pair(Book(TWELVE), *both_trees(BIG)), True)
        self.assertIs(is_alike_pair(Book(TWELVE, [TWELVE]), *both_trees(BIG)), False)

    def test_books_stay_and_answers_stay(self):
        book = Book(list("abcde"), [list("abcd"), list("cde")])
        trees = both_trees((("a",), ("b",), ("c", "d"), ("e",)))
        for _ in range(2):
            self.assertEqual(closest_pair(book), (0, *trees))
            self.assertEqual(alike_pair(book), trees)
        self.assertEqual(book, Book(list("abcde"), [list("abcd"), list("cde")]))


if __name__ == "__main__":
    unittest.main()
