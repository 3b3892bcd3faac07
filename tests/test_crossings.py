"""Promises [71] to [75] and the interface of fourmet/crossings.py."""

import itertools
import random
import unittest

from fourmet.books import Book
from fourmet.crossings import (entry_gains, fit_by_groves, from_table, grove_parting, groves, join_trees, mend_entries,
                               mended_by, shortfall, table, three_bound, times_table, touched, weakest_first)
from fourmet.cutdown import cut_down, true_telling
from fourmet.terrace import fit
from fourmet.trees import Tree
from fourmet.unmet import strength
from helpers import (FAULTY, LETTERS, MESSY, SEVEN, THIRTEEN, TWELVE, caterpillar, in_each, is_lie, kinds, meetings,
                     partings_of, raised, some_books, some_tellings, told_wrong, trees_on)

BOOK = Book(list("abcde"), [list("abcd"), [], list("ae"), list("bcde"), list("abcd")])
ABCDE = (("a",), ("b", "e"), ("c",), ("d",))
NUMBERS = (-1, 10 ** 30, True, False, None, "1")


def books(most=6):
    for count in range(most + 1):
        names = list(LETTERS[:count])
        yield from [Book(names), Book(names, [names]), Book(names, [[]] * 12), Book(names, [names[:2], names[1:], names[2:]])]
        yield from some_books(4, count, seed=71)


def with_name(book, index, name):
    """The lists with the name put on the one at the index."""
    return [tuple(sorted({*row, name})) if at == index else row for at, row in enumerate(book.lists)]


def unmet_by(names, lists):
    return [lots for lots in partings_of(tuple(names)) if not any(in_each(row, lots) for row in lists)]


def gains_by_hand(book):
    found = []
    before = len(unmet_by(book.names, book.lists))
    for index, row in enumerate(book.lists):
        for name in book.names:
            if name not in row:
                found.append((before - len(unmet_by(book.names, with_name(book, index, name))), index, name))
    return tuple(sorted(found, key=lambda row: (-row[0], row[1], row[2])))


def groves_by_hand(book):
    """The groves, by walking from each name along lists of four names or more."""
    found = set()
    for name in book.names:
        reached = [name]
        for other in reached:
            for row in book.lists:
                if len(row) >= 4 and other in row:
                    reached += [one for one in row if one not in reached]
        found.add(tuple(sorted(reached)))
    return tuple(sorted(found))


class TestTable(unittest.TestCase):
    def test_books(self):
        for book in [*books(), Book(TWELVE, [TWELVE[at:] for at in range(12)]), BOOK]:
            told = tuple(tuple(int(name in row) for row in book.lists) for name in book.names)
            self.assertEqual(table(book), told)
            self.assertEqual(table(book=book), told)
            if book.names or not book.lists:
                self.assertEqual(from_table(book.names, told), book)
                self.assertEqual(from_table(rows=[list(row) for row in told], names=list(book.names[::-1])), book)

    def test_examples(self):
        self.assertEqual(table(Book(["b", "a"], [["a"], [], ["b", "a"]])), ((1, 0, 1), (0, 0, 1)))
        self.assertEqual(kinds(table(Book(["a"], [["a"], []]))), (tuple, ((tuple, (int, int)),)))
        self.assertEqual((table(Book([])), table(Book([], [[], []])), table(Book(["a", "b"]))), ((), (), ((), ())))
        self.assertEqual(from_table(["b", "a"], [[1, 0], [1, 1]]), Book(["a", "b"], [["a", "b"], ["b"]]))
        self.assertEqual(from_table([], []), Book([]))
        self.assertEqual(from_table(["a"], [[]]), Book(["a"]))
        self.assertEqual(from_table(["a"], [[0] * 12]), Book(["a"], [[]] * 12))

    def test_errors_of_step_one(self):
        for names, due in ((["a", "B"], ("BadName", "B")), (["a", "a"], ("RepeatedName", "a")), (THIRTEEN, ("TooMany", 12))):
            self.assertEqual(raised(from_table, names, [[2]]), due)
        for value in (2, *NUMBERS):
            for rows in ([[value]], [[0] * 13, [0, value, None]], [[], [1], [0, value], [value, 5]]):
                self.assertEqual(raised(from_table, ["a", "b"], rows), ("BadNumber", value))

    def test_errors_of_step_two(self):
        two = ["a", "b"]
        self.assertEqual(raised(from_table, two, [[0] * 13]), ("TooMany", 12))
        self.assertEqual(raised(from_table, two, [[0] * 13, [0]]), ("TooMany", 12))
        self.assertEqual(raised(from_table, [], [[0] * 14]), ("TooMany", 12))
        self.assertEqual(raised(from_table, two, [[0] * 12, [0] * 13]), ("WrongCount", 13))
        for rows in ([], [[1]], [[1], [1], [1]], [[1], [1, 0], [1]], [[0] * 12]):
            self.assertEqual(raised(from_table, two, rows), ("WrongCount", len(rows)))
        self.assertEqual(raised(from_table, [], [[]]), ("WrongCount", 1))
        self.assertEqual(raised(from_table, list("abcd"), [[1, 0], [0, 1], [1], [0, 1, 1]]), ("WrongCount", 1))
        self.assertEqual(raised(from_table, list("abc"), [[], [0, 1, 1], [0]]), ("WrongCount", 3))

    def test_arguments_stay(self):
        names, rows = ["b", "a"], [[1, 0], [0, 1]]
        book = from_table(names, rows)
        rows[0][0] = 0
        names.append("c")
        self.assertEqual(book, Book(["a", "b"], [["a"], ["b"]]))


class TestTimes(unittest.TestCase):
    def test_books(self):
        for book in books(7):
            told = tuple((lots, len(meetings(book, lots))) for lots in partings_of(book.names))
            self.assertEqual(times_table(book), told)
            self.assertEqual(times_table(book=book), told)
            rows = tuple(sorted((times, lots) for lots, times in told))
            self.assertEqual(weakest_first(book), rows)
            for most in (0, 1, 7, 349, 400):
                self.assertEqual(weakest_first(most=most, book=book), rows[:most])

    def test_examples(self):
        book = Book(list("abcd"), [list("abcd")])
        lots = (("a",), ("b",), ("c",), ("d",))
        self.assertEqual((times_table(book), weakest_first(book)), (((lots, 1),), ((1, lots),)))
        self.assertEqual(kinds(times_table(book)), (tuple, ((tuple, ((tuple, ((tuple, (str,)),) * 4), int)),)))
        self.assertEqual(kinds(weakest_first(book)), (tuple, ((tuple, (int, (tuple, ((tuple, (str,)),) * 4))),)))
        self.assertEqual(len(weakest_first(Book(LETTERS[:7]))), 350)
        for count in range(4):
            self.assertEqual((times_table(Book(LETTERS[:count])), weakest_first(Book(LETTERS[:count]))), ((), ()))

    def test_errors(self):
        for call in (times_table, weakest_first):
            self.assertIsNone(raised(call, Book(LETTERS[:7])))
            self.assertEqual(raised(call, Book(LETTERS[:8])), ("TooMany", 7))
            self.assertEqual(raised(call, Book(TWELVE, [TWELVE])), ("TooMany", 7))
        self.assertEqual(raised(weakest_first, Book(TWELVE), most=0), ("TooMany", 7))
        for value in (401, *NUMBERS):
            for book in (BOOK, Book([]), Book(TWELVE)):
                self.assertEqual(raised(weakest_first, book, most=value), ("BadNumber", value))


class TestShortfall(unittest.TestCase):
    def test_books(self):
        for book in books():
            for lots in partings_of(book.names):
                counts = tuple(sum(bool(set(row) & set(lot)) for lot in lots) for row in book.lists)
                least = 4 - max(counts) if counts else None
                self.assertEqual(touched(book, lots), counts)
                self.assertEqual(shortfall(book, lots), least)
                turned = [list(lot[::-1]) for lot in lots[::-1]]
                self.assertEqual(touched(parting=turned, book=book), counts)
                self.assertEqual(shortfall(parting=turned, book=book), least)

    def test_it_is_the_least_number_of_names_that_must_be_put_on_a_list(self):
        book = Book(list("abcde"), [["a"], [], ["c", "d"], ["b", "e"]])
        for lots in partings_of(book.names):
            found = min(sum(name not in row for name in more) for row in book.lists
                        for size in range(6) for more in itertools.combinations(book.names, size)
                        if in_each({*row, *more}, lots))
            self.assertEqual(shortfall(book, lots), found)

    def test_examples_and_large_books(self):
        self.assertEqual((touched(BOOK, ABCDE), shortfall(BOOK, ABCDE)), ((4, 0, 2, 3, 4), 0))
        self.assertEqual(kinds(touched(BOOK, ABCDE)), (tuple, (int,) * 5))
        self.assertEqual((touched(Book(list("abcde")), ABCDE), shortfall(Book(list("abcde")), ABCDE)), ((), None))
        self.assertEqual(shortfall(Book(list("abcde"), [[]]), ABCDE), 4)
        book = Book(TWELVE, [TWELVE[:3]])
        self.assertEqual(touched(book, [["a"], ["b"], ["c"], TWELVE[3:]]), (3,))
        self.assertEqual(touched(Book(list("abcdefg"), [list("ab")]), MESSY), touched(Book(list("abcdefg"), [list("ab")]), SEVEN))

    def test_errors(self):
        for call in (touched, shortfall):
            for lots, due in FAULTY:
                self.assertEqual(raised(call, BOOK, lots), due)
                self.assertEqual(raised(call, Book([]), lots), due)
            for lots in ((("a",), ("b",), ("c",), ("d",)), (("a",), ("b", "e"), ("c", "f"), ("d",)),
                         (("a",), ("b", "f"), ("c",), ("d",)), SEVEN):
                self.assertEqual(raised(call, BOOK, lots), ("BadParting",))
                self.assertEqual(raised(call, Book(list("abcde")), lots), ("BadParting",))


class TestEntries(unittest.TestCase):
    def test_books(self):
        for book in books():
            told = gains_by_hand(book)
            self.assertEqual(entry_gains(book), told)
            self.assertEqual(entry_gains(book=book), told)
            unmet = unmet_by(book.names, book.lists)
            for gain, index, name in told:
                after = with_name(book, index, name)
                mended = tuple(lots for lots in unmet if in_each(after[index], lots))
                self.assertEqual(mended_by(book, index, name), mended)
                self.assertEqual(mended_by(name=name, index=index, book=book), mended)
                self.assertEqual(len(mended), gain)
                for lots in mended:
                    self.assertEqual(touched(book, lots)[index], 3)
                # No entry makes the times of a parting less.
                more = dict(times_table(Book(book.names, after)))
                self.assertTrue(all(more[lots] >= times for lots, times in times_table(book)))

    def test_seven_names(self):
        for book in some_books(4, 7, seed=72):
            unmet = unmet_by(book.names, book.lists)
            for index, row in enumerate(book.lists):
                for name in [name for name in book.names if name not in row][:2]:
                    told = tuple(lots for lots in unmet if in_each((*row, name), lots))
                    self.assertEqual(mended_by(book, index, name), told)

    def test_examples(self):
        book = Book(list("abcd"), [list("abc"), list("ab"), list("abd"), list("abcd")])
        self.assertEqual(entry_gains(book), ((0, 0, "d"), (0, 1, "c"), (0, 1, "d"), (0, 2, "c")))
        lots = (("a",), ("b",), ("c",), ("d",))
        book = book.without_lists([3])
        self.assertEqual(entry_gains(book), ((1, 0, "d"), (1, 2, "c"), (0, 1, "c"), (0, 1, "d")))
        self.assertEqual(mended_by(book, 0, "d"), (lots,))
        self.assertEqual(kinds(entry_gains(book)), (tuple, ((tuple, (int, int, str)),) * 4))
        self.assertEqual(kinds(mended_by(book, 0, "d")), (tuple, ((tuple, ((tuple, (str,)),) * 4),)))
        self.assertEqual((entry_gains(Book([])), entry_gains(Book(["a"], [["a"]]))), ((), ()))
        self.assertEqual(entry_gains(Book(["a"], [[]])), ((0, 0, "a"),))

    def test_errors(self):
        for value in ("A", "", 3, True, None):
            self.assertEqual(raised(mended_by, BOOK, 0, value), ("BadName", value))
            self.assertEqual(raised(mended_by, BOOK, -1, value), ("BadNumber", -1))
        for value in (5, *NUMBERS):
            for book in (BOOK, Book(TWELVE, [TWELVE] * 5)):
                self.assertEqual(raised(mended_by, book, value, "z"), ("BadNumber", value))
        self.assertEqual(raised(mended_by, Book(["a"]), 0, "a"), ("BadNumber", 0))
        for book in (BOOK, Book(TWELVE, [TWELVE])):
            self.assertEqual(raised(mended_by, book, 0, "z"), ("UnknownName", "z"))
            self.assertEqual(raised(mended_by, book, 0, "a"), ("RepeatedName", "a"))
        self.assertEqual(raised(mended_by, Book(LETTERS[:8], [["b"]]), 0, "a"), ("TooMany", 7))
        self.assertIsNone(raised(mended_by, Book(LETTERS[:7], [["b"]]), 0, "a"))
        for call in (entry_gains, mend_entries):
            self.assertIsNone(raised(call, Book(LETTERS[:6])))
            self.assertEqual(raised(call, Book(LETTERS[:7])), ("TooMany", 6))
            self.assertEqual(raised(call, Book(TWELVE, [TWELVE])), ("TooMany", 6))
        for value in (7, *NUMBERS):
            for book in (BOOK, Book([]), Book(TWELVE)):
                self.assertEqual(raised(mend_entries, book, most=value), ("BadNumber", value))
        self.assertEqual(raised(mend_entries, Book(TWELVE), most=0), ("TooMany", 6))


class TestMendEntries(unittest.TestCase):
    def test_books(self):
        seen = set()
        for book in [*books(), Book(list("abcdef"), [list("cdf"), list("bde")]), Book(list("abcdef"), [list("acd")] * 12)]:
            made = []
            now = book
            while len(made) < 6:
                gains = gains_by_hand(now)
                if not gains or gains[0][0] == 0:
                    break
                made.append((gains[0][1:], now := Book(now.names, with_name(now, *gains[0][1:]))))
            seen.add(len(made))
            for most in range(7):
                entries = tuple(entry for entry, _ in made[:most])
                after = made[:most][-1][1] if made[:most] else book
                self.assertEqual(mend_entries(book, most=most), (entries, after))
            self.assertEqual(mend_entries(book), mend_entries(most=3, book=book))
        self.assertLessEqual({0, 1, 2, 3}, seen)

    def test_examples(self):
        book = Book(list("abcd"), [list("abc"), list("ab"), list("abd")])
        after = Book(list("abcd"), [list("abcd"), list("ab"), list("abd")])
        self.assertEqual(mend_entries(book), (((0, "d"),), after))
        self.assertEqual(mend_entries(book, most=0), ((), book))
        self.assertEqual(mend_entries(after), ((), after))
        self.assertEqual(mend_entries(Book(list("abcd"), [["a", "b"]])), ((), Book(list("abcd"), [["a", "b"]])))
        self.assertEqual(kinds(mend_entries(book)), (tuple, ((tuple, ((tuple, (int, str)),)), Book)))
        self.assertEqual(book.lists[0], tuple("abc"))


class TestThreeBound(unittest.TestCase):
    def test_books(self):
        for book in [*books(7), Book(TWELVE, [TWELVE, TWELVE[1:]]), Book(TWELVE, [TWELVE] * 12)]:
            counts = [sum(set(three) <= set(row) for row in book.lists) for three in itertools.combinations(book.names, 3)]
            told = min(counts) if len(book.names) >= 4 else None
            self.assertEqual(three_bound(book), told)
            self.assertEqual(three_bound(book=book), told)
            if 4 <= len(book.names) <= 7:
                self.assertLessEqual(strength(book), told)
                if any(all(name in row for row in book.lists) for name in book.names):
                    self.assertEqual(strength(book), told)
        self.assertIsNone(three_bound(Book(list("abc"), [list("abc")])))
        self.assertEqual(three_bound(Book(list("abcd"))), 0)
        self.assertIs(type(three_bound(BOOK)), int)


class TestGroves(unittest.TestCase):
    def some(self):
        yield from books(7)
        yield BOOK
        source = random.Random(7)
        for count in (8, 10, 12):
            for _ in range(12):
                names = list(LETTERS[:count])
                rows = [source.sample(names, source.choice([2, 3, 4, 4, 5])) for _ in range(source.randrange(4))]
                yield Book(names, rows)

    def test_books(self):
        seen = set()
        for book in self.some():
            told = groves_by_hand(book)
            self.assertEqual(groves(book), told)
            self.assertEqual(groves(book=book), told)
            lots = grove_parting(book)
            self.assertEqual(grove_parting(book=book), lots)
            if len(book.names) < 4 or len(told) < 2:
                self.assertIsNone(lots)
                continue
            rest = tuple(name for name in book.names if name not in told[0])
            one, two = sorted([told[0], rest], key=len)
            seen.add((len(one) == 1, one == told[0]))
            if len(one) == 1:
                hand = [one, two[:1], two[1:2], two[2:]]
            else:
                hand = [one[:1], one[1:], two[:1], two[1:]]
            self.assertEqual(lots, tuple(sorted(hand)))
            self.assertEqual(meetings(book, lots), ())
        self.assertLessEqual({(True, True), (True, False), (False, True), (False, False)}, seen)

    def test_examples(self):
        book = Book(list("abcdefgh"), [list("abc"), list("bcde"), list("fgh"), list("defg"), list("ah")])
        self.assertEqual(groves(book), (("a",), tuple("bcdefg"), ("h",)))
        self.assertEqual(grove_parting(book), (("a",), ("b",), ("c",), tuple("defgh")))
        self.assertEqual(groves(Book(list("abcd"), [list("abcd")])), (tuple("abcd"),))
        self.assertIsNone(grove_parting(Book(list("abcd"), [list("abcd")])))
        self.assertEqual(groves(Book([])), ())
        self.assertEqual(groves(Book(list("abc"), [list("abc")])), (("a",), ("b",), ("c",)))
        self.assertIsNone(grove_parting(Book(list("abc"))))
        self.assertEqual(grove_parting(Book(list("abcd"))), (("a",), ("b",), ("c",), ("d",)))
        book = Book(list("abcdefgh"), [list("aceg"), list("bdfh")])
        self.assertEqual(grove_parting(book), (("a",), ("b",), ("c", "e", "g"), ("d", "f", "h")))
        self.assertEqual(grove_parting(Book(list("abcde"), [list("abcd")])), (("a",), ("b",), ("c", "d"), ("e",)))
        self.assertEqual(kinds(groves(Book(list("abcde"), [list("abcd")]))), (tuple, ((tuple, (str,) * 4), (tuple, (str,)))))


class TestJoining(unittest.TestCase):
    def test_cuts_of_joined_trees(self):
        source = random.Random(5)
        for _ in range(60):
            names = source.sample(TWELVE, 12)
            parts = [tuple(sorted(names[:5])), tuple(sorted(names[5:9])), tuple(sorted(names[9:10])), (),
                     tuple(sorted(names[10:]))]
            trees = [source.choice(trees_on(part)) for part in parts]
            joined = join_trees(trees)
            self.assertEqual(joined.names, tuple(TWELVE))
            self.assertEqual(len(joined), sum(map(len, trees)))
            self.assertEqual(join_trees(trees=tuple(trees)), joined)
            for tree in trees:
                self.assertEqual(cut_down(joined, tree.names), tree)
            self.assertEqual(joined, Tree(TWELVE, [side for tree in trees for side in tree.splits]))

    def test_examples(self):
        one, two = Tree(list("acde"), [["c", "d"]]), Tree(list("bfgh"), [["g", "h"]])
        self.assertEqual(join_trees([one, two]), Tree(list("abcdefgh"), [["c", "d"], ["g", "h"]]))
        self.assertEqual(join_trees([]), Tree([]))
        self.assertEqual(join_trees([one]), one)
        self.assertEqual(join_trees([Tree(["b"]), Tree([]), Tree(["a"])]), Tree(["a", "b"]))
        self.assertIs(type(join_trees([one, two])), Tree)

    def test_errors(self):
        one = Tree(list("bcd"))
        self.assertEqual(raised(join_trees, [one, Tree(list("xd")), Tree(list("cy"))]), ("RepeatedName", "c"))
        self.assertEqual(raised(join_trees, [one, Tree(["a"]), Tree(["a"]), one]), ("RepeatedName", "a"))
        self.assertEqual(raised(join_trees, [one, one]), ("RepeatedName", "b"))
        self.assertEqual(raised(join_trees, [Tree(TWELVE), Tree(["z"])]), ("TooMany", 12))
        self.assertEqual(raised(join_trees, [Tree(TWELVE), Tree(["z", "l"])]), ("RepeatedName", "l"))
        self.assertEqual(join_trees([Tree(TWELVE[:11]), Tree(["z"])]), Tree(TWELVE[:11] + ["z"]))


class TestFitByGroves(unittest.TestCase):
    def by_hand(self, book, trees):
        """The first tree that fits on each grove, and these joined; None if some grove has none."""
        sides = []
        for grove in groves_by_hand(book):
            told = [tree for row, tree in zip(book.lists, trees) if len(row) >= 4 and set(row) <= set(grove)]
            fits = [tree for tree in trees_on(grove) if not any(is_lie(tree, other) for other in told)]
            if not fits:
                return None
            sides += fits[0].splits
        return Tree(book.names, sides)

    def some(self):
        for at, book in enumerate(books(5)):
            yield book, some_tellings(book, 2, seed=at) + [true_telling(trees_on(book.names)[-1], book)]
        source = random.Random(4)
        for at in range(20):
            names = source.sample(TWELVE, 12)
            left, right = names[:5], names[5:10]
            rows = [source.sample(left, 4), source.sample(right, 4), left, right, names[9:], names[3:6], source.sample(left, 4)]
            book = Book(TWELVE, source.sample(rows, 6))
            yield book, some_tellings(book, 2, seed=at) + [true_telling(caterpillar(12), book)]

    def test_books(self):
        seen = set()
        for book, tellings in self.some():
            for trees in tellings:
                told = self.by_hand(book, trees)
                seen.add(told is None)
                if told is None:
                    self.assertEqual(raised(fit_by_groves, book, trees), ("NoTree",))
                else:
                    self.assertEqual(fit_by_groves(book, trees), told)
                    self.assertEqual(fit_by_groves(trees=tuple(trees), book=book), told)
                    self.assertEqual(true_telling(told, book), tuple(trees))
                if len(book.names) <= 6:
                    self.assertEqual(fit(book, trees) == ("none",), told is None)
        self.assertEqual(seen, {True, False})

    def test_it_need_not_be_the_first_tree(self):
        book = Book(list("abcde"), [list("abcd")])
        tree = Tree(list("abcd"), [["c", "d"]])
        found = fit_by_groves(book, [tree])
        self.assertEqual(found, Tree(list("abcde"), [["c", "d"]]))
        self.assertNotEqual(fit(book, [tree])[1], found)

    def test_groves_of_six_and_of_seven(self):
        six = Book(TWELVE, [TWELVE[:6], TWELVE[6:], TWELVE[4:7]])
        trees = [Tree(TWELVE[:6], [["b", "c"]]), Tree(TWELVE[6:], [["k", "l"], ["j", "k", "l"]]), Tree(TWELVE[4:7])]
        self.assertEqual(fit_by_groves(six, trees), Tree(TWELVE, [["b", "c"], ["k", "l"], ["j", "k", "l"]]))
        seven = Book(TWELVE, [TWELVE[:5], TWELVE[3:7]])
        told = [Tree(TWELVE[:5]), Tree(TWELVE[3:7])]
        self.assertEqual(raised(fit_by_groves, seven, told), ("TooMany", 6))
        self.assertEqual(raised(fit_by_groves, seven, told[:1]), ("BadTelling", 1))
        mixed = Book(TWELVE, [TWELVE[:4], TWELVE[:4], TWELVE[5:]])
        told = [Tree(TWELVE[:4]), Tree(TWELVE[:4], [["b", "c"]]), Tree(TWELVE[5:])]
        self.assertEqual(raised(fit_by_groves, mixed, told), ("TooMany", 6))
        self.assertEqual(fit_by_groves(Book(TWELVE), []), Tree(TWELVE))
        self.assertEqual(fit_by_groves(Book([]), []), Tree([]))

    def test_errors(self):
        good = true_telling(Tree(list("abcde"), [["d", "e"]]), BOOK)
        for trees, at in told_wrong(BOOK, good):
            self.assertEqual(raised(fit_by_groves, BOOK, trees), ("BadTelling", at))
        trees = list(good)
        trees[4] = Tree(list("abcd"), [["b", "c"]])
        self.assertEqual(raised(fit_by_groves, BOOK, trees), ("NoTree",))

    def test_arguments_stay(self):
        book, trees = Book(BOOK.names, BOOK.lists), [Tree(row) for row in BOOK.lists]

        def answers():
            return [table(book), times_table(book), weakest_first(book, most=3), touched(book, ABCDE), entry_gains(book),
                    mend_entries(book), groves(book), grove_parting(book), fit_by_groves(book, trees), three_bound(book)]

        self.assertEqual(answers(), answers())
        self.assertEqual((book, trees), (BOOK, [Tree(row) for row in BOOK.lists]))


if __name__ == "__main__":
    unittest.main()
