"""Promises [36], [41], [52], [73] for what they say of the strength, and the interface of fourmet/unmet.py."""

import itertools
import unittest

from fourmet.books import Book
from fourmet.unmet import (least_by_kind, least_met, meeting_lists, met_counts, sparing_book, strength,
                           unmet_partings)
from helpers import (BIG, FAULTY, LETTERS, MESSY, SEVEN, THIRTEEN, TWELVE, every_tree, kinds, meetings, partings_of,
                     raised, some_books, statement)

NAMES = list("abcde")
BOOK = Book(NAMES, [list("abcd"), list("abcde"), [], list("abce"), list("abcd"), list("bcde")])


def books():
    """Books of up to seven names, some without lists, some that hold all names."""
    for count in range(8):
        names = list(LETTERS[:count])
        yield Book(names)
        yield Book(names, [names])
        yield Book(names, [names] * 12)
        yield Book(names, [[]] * 3 + [names[1:]])
        yield from some_books(12, count)


def all_times(book):
    """The times of all partings, in their order."""
    return [len(meetings(book, parting)) for parting in partings_of(book.names)]


def shape(parting):
    return tuple(sorted((len(lot) for lot in parting), reverse=True))


class TestMeetingLists(unittest.TestCase):
    def test_every_parting(self):
        for book in books():
            for parting in partings_of(book.names):
                self.assertEqual(meeting_lists(book, parting), meetings(book, parting))
        book = some_books(1, 12)[0]
        self.assertEqual(meeting_lists(book, BIG), meetings(book, BIG))
        self.assertEqual(meeting_lists(Book(TWELVE, [TWELVE, [], TWELVE]), BIG), (0, 2))

    def test_orders_and_names_of_arguments(self):
        for lots in itertools.permutations([["b", "a"], ("c",), ["d"], ("e",)]):
            self.assertEqual(meeting_lists(BOOK, lots), (1, 5))
            self.assertEqual(meeting_lists(parting=list(lots), book=BOOK), (1, 5))
        self.assertEqual(kinds(meeting_lists(BOOK, [["a"], ["b"], ["c"], ["d", "e"]])), (tuple, (int,) * 4))

    def test_errors(self):
        for lots, told in FAULTY:
            self.assertEqual(raised(meeting_lists, BOOK, lots), told)
        for lots in ([["a"], ["b"], ["c"], ["d"]], [["a"], ["b"], ["c"], ["d", "f"]], MESSY):
            self.assertEqual(raised(meeting_lists, BOOK, lots), ("BadParting",))
        self.assertEqual(raised(meeting_lists, Book([]), MESSY), ("BadParting",))
        self.assertEqual(raised(meeting_lists, Book(TWELVE), MESSY), ("BadParting",))


class TestUnmetPartings(unittest.TestCase):
    def test_books(self):
        for book in books():
            told = tuple(parting for parting in partings_of(book.names) if not meetings(book, parting))
            self.assertEqual(unmet_partings(book), told)
            self.assertEqual(unmet_partings(book=book, most=400), told)
            for most in (0, 1, 2, 7, 349, 350):
                self.assertEqual(unmet_partings(book, most=most), told[:most])

    def test_no_lists(self):
        for count, many in enumerate([0, 0, 0, 0, 1, 10, 65, 350]):
            self.assertEqual(unmet_partings(Book(LETTERS[:count])), partings_of(tuple(LETTERS[:count])))
            self.assertEqual(len(unmet_partings(Book(LETTERS[:count]))), many)
        self.assertEqual(unmet_partings(Book(list("abcd"))), ((("a",), ("b",), ("c",), ("d",)),))

    def test_errors(self):
        for value in (-1, 401, True, False, None, "1"):
            self.assertEqual(raised(unmet_partings, Book(NAMES), most=value), ("BadNumber", value))
            self.assertEqual(raised(unmet_partings, Book(TWELVE), most=value), ("BadNumber", value))


class TestTimes(unittest.TestCase):
    def test_met_counts(self):
        for book in books():
            times = all_times(book)
            self.assertEqual(met_counts(book), tuple(times.count(k) for k in range(len(book) + 1)))
            self.assertEqual(met_counts(book=book), met_counts(book))
        self.assertEqual(met_counts(Book(list("abc"), [["a"], []])), (0, 0, 0))
        self.assertEqual(met_counts(Book([])), (0,))
        self.assertEqual(met_counts(Book(list("abcd"), [list("abcd")] * 12)), (0,) * 12 + (1,))
        self.assertEqual(kinds(met_counts(BOOK)), (tuple, (int,) * 7))

    def test_least_met_and_strength(self):
        for book in books():
            times = all_times(book)
            if times:
                told = (min(times), partings_of(book.names)[times.index(min(times))])
                self.assertEqual(least_met(book), told)
                self.assertEqual(strength(book), min(times))
                self.assertIs(type(strength(book)), int)
            else:
                self.assertIsNone(least_met(book))
                self.assertIsNone(strength(book))
            self.assertEqual((least_met(book=book), strength(book=book)), (least_met(book), strength(book)))

    def test_examples(self):
        self.assertEqual(least_met(BOOK), (1, (("a",), ("b", "c"), ("d",), ("e",))))
        self.assertEqual(met_counts(BOOK), (0, 1, 4, 3, 2, 0, 0))
        self.assertEqual(least_by_kind(BOOK), (((2, 1, 1, 1), 1),))
        self.assertEqual(strength(Book(list("abcd"))), 0)
        self.assertEqual(strength(Book(list("abcd"), [list("abcd")] * 12)), 12)
        for count in range(4):
            book = Book(list(LETTERS[:count]), [list(LETTERS[:count])])
            self.assertEqual((strength(book), least_met(book), least_by_kind(book)), (None, None, ()))
        self.assertEqual(least_met(Book(list("abcde"))), (0, (("a",), ("b",), ("c",), ("d", "e"))))
        self.assertEqual(kinds(least_met(BOOK)), (tuple, (int, kinds(partings_of(tuple("abcde"))[3]))))

    def test_least_by_kind(self):
        for book in books():
            told = {}
            for parting, times in zip(partings_of(book.names), all_times(book)):
                told.setdefault(shape(parting), []).append(times)
            found = tuple(sorted((kind, min(times)) for kind, times in told.items()))
            self.assertEqual(least_by_kind(book), found)
            self.assertEqual(least_by_kind(book=book), found)
        self.assertEqual([kind for kind, _ in least_by_kind(Book(list("abcdefg")))],
                         [(2, 2, 2, 1), (3, 2, 1, 1), (4, 1, 1, 1)])
        self.assertEqual(kinds(least_by_kind(BOOK)), (tuple, ((tuple, ((tuple, (int,) * 4), int)),)))

    def test_kinds_that_differ(self):
        # A list without one name meets all partings but those in which that name is a lot alone.
        lists = [[name for name in "abcdefg" if name != left] for left in "abcdefg"]
        self.assertEqual(least_by_kind(Book(list("abcdefg"), lists)),
                         (((2, 2, 2, 1), 6), ((3, 2, 1, 1), 5), ((4, 1, 1, 1), 4)))

    def test_seven_names_and_eight(self):
        for call in (unmet_partings, met_counts, least_met, strength, least_by_kind):
            self.assertIsNone(raised(call, Book(LETTERS[:7])))
            for names in (LETTERS[:8], TWELVE):
                self.assertEqual(raised(call, Book(names)), ("TooMany", 7))
                self.assertEqual(raised(call, Book(names, [names])), ("TooMany", 7))
        self.assertEqual(raised(unmet_partings, Book(TWELVE), most=0), ("TooMany", 7))

    def test_books_stay_and_answers_stay(self):
        book = Book(NAMES, [list(names) for names in BOOK.lists])
        for _ in range(2):
            self.assertEqual((strength(book), met_counts(book), least_met(book), least_by_kind(book)),
                             (strength(BOOK), met_counts(BOOK), least_met(BOOK), least_by_kind(BOOK)))
        self.assertEqual(book, BOOK)


class TestSparingBook(unittest.TestCase):
    def test_the_parting_alone_is_unmet(self):
        for count in range(4, 8):
            for parting in partings_of(tuple(LETTERS[:count]))[::3]:
                book = sparing_book(parting)
                self.assertEqual(unmet_partings(book), (parting,))
                self.assertEqual(book.names, tuple(LETTERS[:count]))
                self.assertEqual(book.lists, tuple(tuple(name for name in book.names if name not in lot)
                                                   for lot in parting))

    def test_orders(self):
        told = Book(list("abcdefg"), [list("bcdeg"), list("acdefg"), list("abef"), list("abcdfg")])
        for lots in itertools.permutations(MESSY):
            self.assertEqual(sparing_book(lots), told)
            self.assertEqual(sparing_book(parting=list(lots)), told)
        self.assertEqual(sparing_book(SEVEN), told)
        self.assertEqual(sparing_book(BIG).names, tuple(TWELVE))
        self.assertEqual([len(names) for names in sparing_book(BIG)], [10, 11, 7, 8])

    def test_errors(self):
        for lots, told in FAULTY:
            self.assertEqual(raised(sparing_book, lots), told)
        self.assertEqual(raised(sparing_book, [THIRTEEN]), ("TooMany", 12))

    def test_arguments_stay(self):
        lots = [["g", "d", "c"], ["e"], ["f", "a"], ["b"]]
        book = sparing_book(lots)
        lots[1].append("z")
        self.assertEqual(lots, [["g", "d", "c"], ["e", "z"], ["f", "a"], ["b"]])
        self.assertEqual(book, sparing_book(SEVEN))


class TestWhatTheStrengthSays(unittest.TestCase):
    def test_it_is_the_least_distance_of_unlike_trees(self):
        """[41], from what the trees say."""
        for count in (4, 5, 6):
            trees = every_tree(count)
            fours = list(itertools.combinations(LETTERS[:count], 4))
            sayings = [[statement(tree, four) for four in fours] for tree in trees]
            unlike = [[four for four, first, second in zip(fours, one, two) if first != second]
                      for one, two in itertools.combinations(sayings, 2)]
            unlike = sorted(set(map(tuple, unlike)), key=len)
            for book in some_books(8, count, seed=3):
                told = [[set(four) <= set(names) for names in book.lists] for four in fours]
                rows = dict(zip(fours, told))
                least = min(sum(map(any, zip(*[rows[four] for four in apart]))) for apart in unlike)
                self.assertEqual(strength(book), least)

    def test_adding_a_list(self):
        """[52]: never less, and greater by at most one."""
        seen = set()
        for count in (4, 5, 6, 7):
            names = list(LETTERS[:count])
            for book in some_books(10, count, most=6, seed=4):
                for more in (names, names[1:], names[:3], names[::2], []):
                    gain = strength(book.with_list(more)) - strength(book)
                    self.assertIn(gain, (0, 1))
                    seen.add(gain)
        self.assertEqual(seen, {0, 1})

    def test_no_more_than_the_least_count_of_the_threes(self):
        """[73], with equality where a name is common."""
        unequal = 0
        threes = Book(list("abcde"), list(itertools.combinations("abcde", 3)))
        for book in [threes] + [book for book in books() if len(book.names) >= 4]:
            counts = [sum(set(three) <= set(names) for names in book.lists)
                      for three in itertools.combinations(book.names, 3)]
            self.assertLessEqual(strength(book), min(counts))
            unequal += strength(book) < min(counts)
            rows = [set(names) | {"a"} for names in book.lists]
            rooted = Book(book.names, [sorted(names) for names in rows])
            self.assertEqual(strength(rooted), min(sum(set(three) <= names for names in rows)
                                                   for three in itertools.combinations(book.names, 3)))
        self.assertGreater(unequal, 0)


if __name__ == "__main__":
    unittest.main()
