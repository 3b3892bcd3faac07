"""Promise [52] and the interface of fourmet/fill.py."""

import itertools
import unittest

from fourmet.books import Book
from fourmet.fill import core, fewest_lists, fill, needless_lists
from fourmet.tellsall import tells_all
from fourmet.unmet import strength
from helpers import LETTERS, THIRTEEN, TWELVE, in_each, kinds, meetings, partings_of, raised, some_books

BOOK = Book(list("abcde"), [list("abcd"), list("abcde"), [], list("abce"), list("abc"), list("bcde"), list("acde")])
SMALL = Book(list("abcd"), [list("abcd")])


def books(most=6):
    for count in range(most + 1):
        names = list(LETTERS[:count])
        yield from [Book(names), Book(names, [names]), Book(names, [names] * 12), Book(names, [[], names[1:], names[:3]])]
        yield from some_books(6, count, seed=51)


def least_times(names, lists):
    """The least number of the lists that meet a parting of the names; None if there is no parting."""
    return min((sum(in_each(row, lots) for row in lists) for lots in partings_of(tuple(names))), default=None)


def without(book, *indexes):
    return [row for at, row in enumerate(book.lists) if at not in indexes]


class TestFill(unittest.TestCase):
    def test_books(self):
        for book in books():
            found = []
            for parting in partings_of(book.names):
                if not any(in_each(row, parting) for row in [*book.lists, *found]):
                    found.append(tuple(min(lot) for lot in parting))
            self.assertEqual(fill(book), tuple(found))
            self.assertEqual(fill(book=book), tuple(found))
            self.assertEqual(fill(book) == (), tells_all(book))
            self.assertLessEqual(len(found), 10)
            self.assertEqual(len(set(found)), len(found))
            self.assertTrue(all(row[0] == book.names[0] and len(row) == 4 for row in found))

    def test_the_filled_lists_tell_all_trees(self):
        for book in books():
            lists = book.lists + fill(book)
            self.assertNotEqual(least_times(book.names, lists), 0)
            if len(lists) <= 12:
                self.assertIs(tells_all(Book(book.names, lists)), True)

    def test_examples(self):
        self.assertEqual(fill(Book(list("abcd"))), (("a", "b", "c", "d"),))
        self.assertEqual(len(fill(Book(LETTERS[:6]))), 10)
        self.assertEqual(len(fill(Book(LETTERS[:6], [["a"]] * 12))), 10)
        self.assertEqual(fill(Book(list("abcde"), [list("abcd"), list("abce"), list("acde")])), (tuple("abde"),))
        self.assertEqual(kinds(fill(Book(list("abcd")))), (tuple, ((tuple, (str,) * 4),)))
        for count in range(4):
            self.assertEqual(fill(Book(LETTERS[:count])), ())

    def test_adding_a_list_adds_one_at_the_most(self):
        for book in books(5):
            if len(book) < 12 and strength(book) is not None:
                for size in range(len(book.names) + 1):
                    more = strength(book.with_list(book.names[:size]))
                    self.assertIn(more - strength(book), (0, 1))


class TestFewestLists(unittest.TestCase):
    def by_hand(self, book, candidates, need):
        for size in range(len(candidates) + 1):
            for choice in itertools.combinations(range(len(candidates)), size):
                times = least_times(book.names, [*book.lists, *[candidates[at] for at in choice]])
                if times is None or times >= need:
                    return choice
        return None

    def test_books_and_candidates(self):
        seen = set()
        for at, book in enumerate(books(5)):
            names = list(book.names)
            rows = [row for other in some_books(2, len(names), most=6, seed=at) for row in other.lists][:6]
            for candidates in (rows, [], [names] * 6, [names[::-1], [], names[1:], names[:-1], names[::2] + names[1::2]]):
                for need in (0, 1, 2, 3, 12):
                    told = self.by_hand(book, candidates, need)
                    seen.add(None if told is None else len(told))
                    self.assertEqual(fewest_lists(book, candidates, need=need), told)
                    self.assertEqual(fewest_lists(need=need, candidates=tuple(candidates), book=book), told)
                self.assertEqual(fewest_lists(book, candidates), self.by_hand(book, candidates, 1))
        self.assertLessEqual({None, 0, 1, 2, 3}, seen)

    def test_six_names(self):
        book = Book(LETTERS[:6])
        # Each parting is met if each five of the six names stand together.
        rows = [[name for name in LETTERS[:6] if name != left] for left in LETTERS[:6]]
        for lists, need in ((rows, 1), (rows, 2), (rows[::-1], 2), (rows[:4] + rows[:2], 1)):
            self.assertEqual(fewest_lists(book, lists, need=need), self.by_hand(book, lists, need))

    def test_the_first_of_the_fewest(self):
        four = list("abcd")
        book = Book(four, [four])
        self.assertEqual(fewest_lists(book, [["a"], four, four, four], need=3), (1, 2))
        self.assertEqual(fewest_lists(book, [["a"], four, four, four], need=2), (1,))
        self.assertEqual(fewest_lists(book, [["a"], four, four, four], need=4), (1, 2, 3))
        self.assertIsNone(fewest_lists(book, [["a"], four, four, four], need=5))
        self.assertEqual(fewest_lists(book, [four]), ())
        self.assertEqual(fewest_lists(Book(four), [four], need=0), ())
        self.assertEqual(fewest_lists(Book(list("abc")), [], need=12), ())
        self.assertEqual(kinds(fewest_lists(book, [four, four], need=3)), (tuple, (int, int)))

    def test_more_than_twelve_together(self):
        four = list("abcd")
        self.assertEqual(fewest_lists(Book(four, [["a"]] * 12), [four] * 6, need=6), (0, 1, 2, 3, 4, 5))
        self.assertEqual(fewest_lists(Book(four, [four] * 11 + [[]]), [four] * 6, need=12), (0,))
        self.assertIsNone(fewest_lists(Book(four, [["a"]] * 12), [four] * 6, need=7))

    def test_errors_of_step_one(self):
        for book in (BOOK, Book([]), Book(TWELVE)):
            for value in (-1, 13, 10 ** 30, True, False, None, "1"):
                self.assertEqual(raised(fewest_lists, book, [["z"]] * 6, need=value), ("BadNumber", value))
                self.assertEqual(raised(fewest_lists, book, [["z"]] * 7, need=value), ("TooMany", 6))
                self.assertEqual(raised(fewest_lists, book, [["B"]], need=value), ("BadName", "B"))
            self.assertEqual(raised(fewest_lists, book, [["a", "a"], ["B"]]), ("RepeatedName", "a"))
            self.assertEqual(raised(fewest_lists, book, [["a"], ["a", "a", None]]), ("BadName", None))
            self.assertEqual(raised(fewest_lists, book, [["a"]] * 7 + [THIRTEEN]), ("TooMany", 12))
            self.assertEqual(raised(fewest_lists, book, [["a"]] * 7 + [["b", "b"]]), ("RepeatedName", "b"))
            self.assertEqual(raised(fewest_lists, book, [[]] * 7), ("TooMany", 6))

    def test_errors_of_step_two(self):
        self.assertIsNone(raised(fewest_lists, BOOK, [["a"]] * 6))
        for book in (BOOK, Book(LETTERS[:7]), Book(TWELVE)):
            self.assertEqual(raised(fewest_lists, book, [["a"], ["z", "b", "y"], ["x"]]), ("UnknownName", "y"))
            self.assertEqual(raised(fewest_lists, book, [["a"], ["z"], ["x", "y"]], need=0), ("UnknownName", "z"))
        self.assertEqual(raised(fewest_lists, Book([]), [["a"]]), ("UnknownName", "a"))
        self.assertEqual(raised(fewest_lists, Book(LETTERS[:7]), [["a"]]), ("TooMany", 6))
        self.assertEqual(raised(fewest_lists, Book(TWELVE), [], need=0), ("TooMany", 6))

    def test_arguments_stay(self):
        candidates = [list("dcba"), ["a"], ("b", "a")]
        told = fewest_lists(Book(list("abcd")), candidates)
        self.assertEqual(candidates, [list("dcba"), ["a"], ("b", "a")])
        self.assertEqual(told, (0,))
        self.assertEqual(fewest_lists(Book(list("abcd")), candidates), told)


class TestNeedlessAndCore(unittest.TestCase):
    def test_books(self):
        for book in books():
            whole = least_times(book.names, book.lists)
            needless = tuple(at for at in range(len(book)) if least_times(book.names, without(book, at)) == whole)
            self.assertEqual(needless_lists(book), needless)
            self.assertEqual(needless_lists(book=book), needless)
            gone = []
            for at in range(len(book) - 1, -1, -1):
                if least_times(book.names, without(book, at, *gone)) == whole:
                    gone.append(at)
            told = tuple(at for at in range(len(book)) if at not in gone)
            self.assertEqual(core(book), told)
            self.assertEqual(core(book=book), told)

    def test_the_core_has_the_strength_of_the_book(self):
        for book in books():
            kept = book.only_lists(core(book))
            self.assertEqual(strength(kept), strength(book))
            self.assertEqual(needless_lists(kept), ())
            if strength(book) in (None, 0):
                self.assertEqual(core(book), ())

    def test_examples(self):
        self.assertEqual(needless_lists(SMALL), ())
        self.assertEqual(core(SMALL), (0,))
        self.assertEqual(core(Book(list("abcd"), [list("abcd"), [], list("abcd"), list("abc")])), (0, 2))
        self.assertEqual(needless_lists(Book(list("abcd"), [list("abcd"), [], list("abcd"), list("abc")])), (1, 3))
        self.assertEqual((strength(BOOK), needless_lists(BOOK), core(BOOK)), (2, (2, 4), (0, 1, 3, 5, 6)))
        book = Book(list("abcde"), [list("abcde"), list("abcd"), list("abce"), list("abde"), list("acde"), list("bcde")])
        self.assertEqual((strength(book), needless_lists(book), core(book)), (3, (), (0, 1, 2, 3, 4, 5)))
        # Either of two equal lists can be left out, but not both; the last one goes.
        book = Book(list("abcde"), list(book.lists[1:]) + [list("abcd")])
        self.assertEqual((strength(book), needless_lists(book), core(book)), (2, (0, 5), (0, 1, 2, 3, 4)))
        doubled = Book(list("abcde"), [list("abcde"), list("abcd"), list("abce")])
        self.assertEqual((strength(doubled), needless_lists(doubled), core(doubled)), (1, (1, 2), (0,)))
        self.assertEqual(kinds(core(doubled)), (tuple, (int,)))
        self.assertEqual(kinds(needless_lists(doubled)), (tuple, (int, int)))

    def test_few_names_and_no_lists(self):
        for count in range(4):
            book = Book(LETTERS[:count], [LETTERS[:count], []])
            self.assertEqual((needless_lists(book), core(book)), ((0, 1), ()))
        self.assertEqual((needless_lists(Book(list("abcd"))), core(Book(list("abcd")))), ((), ()))
        self.assertEqual(core(Book(list("abcd"), [list("abc"), list("bcd")])), ())

    def test_equal_lists_each_count(self):
        book = Book(list("abcd"), [list("abcd")] * 12)
        self.assertEqual((needless_lists(book), core(book)), ((), tuple(range(12))))
        self.assertEqual(meetings(book, partings_of(book.names)[0]), tuple(range(12)))


class TestBounds(unittest.TestCase):
    def test_too_many_names(self):
        for call in (fill, needless_lists, core):
            self.assertIsNone(raised(call, Book(LETTERS[:6], [LETTERS[:6]])))
            self.assertEqual(raised(call, Book(LETTERS[:7])), ("TooMany", 6))
            self.assertEqual(raised(call, Book(TWELVE, [TWELVE])), ("TooMany", 6))

    def test_books_stay(self):
        book = Book(BOOK.names, BOOK.lists)
        answers = (fill(book), fewest_lists(book, [list("abcde")], need=3), needless_lists(book), core(book))
        self.assertEqual(book, BOOK)
        self.assertEqual(answers, (fill(book), fewest_lists(book, [list("abcde")], need=3), needless_lists(book),
                                   core(book)))


if __name__ == "__main__":
    unittest.main()
