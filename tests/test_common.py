"""Promises [43], [73] and the interface of fourmet/common.py; [54] for root papers."""

import itertools
import unittest

from fourmet.books import Book
from fourmet.common import (is_root_paper, names_in_all, root_lists, root_paper, single_parting, strength_by_root,
                            triple_counts, weakest_triple, with_root)
from fourmet.trees import Tree
from fourmet.unmet import meeting_lists, strength
from helpers import (LETTERS, THIRTEEN, TWELVE, in_each, kinds, one_paper_of_each_kind, raised, some_books)

BOOK = Book(list("abcde"), [list("abcd"), list("cbe"), list("bcde"), list("abcde"), list("cdba")])
WITH_ROOT = (triple_counts, weakest_triple, strength_by_root, root_paper, root_lists)


def rooted_books():
    """Books with a root that is common, of all sizes: pairs (book, root)."""
    for count in range(1, 13):
        names = list(LETTERS[:count])
        for root in sorted({names[0], names[count // 2], names[-1]}):
            yield Book(names), root
            yield Book(names, [names]), root
            yield Book(names, [names] * 11 + [[root]]), root
            for book in some_books(3, count, seed=9):
                yield Book(names, [sorted(set(row) | {root}) for row in book.lists]), root


def threes_of(book, root):
    return list(itertools.combinations([name for name in book.names if name != root], 3))


def holders(book, three):
    return [at for at, row in enumerate(book.lists) if set(three) <= set(row)]


class TestCommonNames(unittest.TestCase):
    def test_books_of_all_sizes(self):
        for count in range(13):
            for book in some_books(6, count, most=4) + [Book(LETTERS[:count])]:
                told = tuple(name for name in book.names if all(name in row for row in book.lists))
                self.assertEqual(names_in_all(book), told)
                self.assertEqual(names_in_all(book=book), told)

    def test_in_each_list_in_none_in_all_but_one(self):
        self.assertEqual(names_in_all(BOOK), ("b", "c"))
        self.assertEqual(names_in_all(Book(list("ab"))), ("a", "b"))
        self.assertEqual(names_in_all(Book([])), ())
        self.assertEqual(names_in_all(Book(list("ab"), [["a"], ["b"]])), ())
        self.assertEqual(names_in_all(Book(list("ab"), [["a"], []])), ())
        self.assertEqual(names_in_all(Book(list("ab"), [["a"], ["a", "b"], ["a"]])), ("a",))
        self.assertEqual(kinds(names_in_all(BOOK)), (tuple, (str, str)))


class TestCounts(unittest.TestCase):
    def test_books_of_all_sizes(self):
        for book, root in rooted_books():
            rows = [(three, len(holders(book, three))) for three in threes_of(book, root)]
            self.assertEqual(triple_counts(book, root), tuple(rows))
            self.assertEqual(triple_counts(root=root, book=book), tuple(rows))
            counts = [count for _, count in rows]
            least = (min(counts), rows[counts.index(min(counts))][0]) if rows else None
            self.assertEqual(weakest_triple(book, root), least)
            self.assertEqual(weakest_triple(root=root, book=book), least)
            self.assertEqual(strength_by_root(book, root), least and least[0])
            self.assertEqual(strength_by_root(root=root, book=book), least and least[0])

    def test_the_strength_by_the_root_is_the_strength(self):
        seen = set()
        for book, root in rooted_books():
            if len(book.names) <= 7:
                self.assertEqual(strength_by_root(book, root), strength(book))
                seen.add(strength(book))
        self.assertGreater(len(seen), 4)

    def test_examples(self):
        self.assertEqual(triple_counts(BOOK, "b"), (
            (("a", "c", "d"), 3), (("a", "c", "e"), 1), (("a", "d", "e"), 1), (("c", "d", "e"), 2)))
        self.assertEqual(weakest_triple(BOOK, "b"), (1, ("a", "c", "e")))
        self.assertEqual(weakest_triple(BOOK, "c"), (1, ("a", "b", "e")))
        self.assertEqual(strength_by_root(BOOK, "c"), 1)
        self.assertEqual(kinds(triple_counts(BOOK, "b")), (tuple, ((tuple, ((tuple, (str,) * 3), int)),) * 4))
        self.assertEqual(kinds(weakest_triple(BOOK, "b")), (tuple, (int, (tuple, (str,) * 3))))
        self.assertIs(type(strength_by_root(BOOK, "b")), int)
        for count in range(1, 4):
            book = Book(LETTERS[:count], [LETTERS[:count]])
            self.assertEqual((triple_counts(book, "a"), weakest_triple(book, "a"), strength_by_root(book, "a"),
                              root_lists(book, "a")), ((), None, None, ()))

    def test_errors(self):
        for call in WITH_ROOT:
            for value in ("A", "", None, True, 3):
                self.assertEqual(raised(call, BOOK, value), ("BadName", value))
            self.assertEqual(raised(call, BOOK, "z"), ("UnknownName", "z"))
            self.assertEqual(raised(call, Book([]), "a"), ("UnknownName", "a"))
            self.assertEqual(raised(call, Book(list("ab"), [["a"], []]), "z"), ("UnknownName", "z"))
            self.assertEqual(raised(call, BOOK, "a"), ("NotInAll", 1))
            self.assertEqual(raised(call, BOOK, "e"), ("NotInAll", 0))
            self.assertEqual(raised(call, Book(list("ab"), [["a", "b"], ["a"], []]), "a"), ("NotInAll", 2))
            self.assertEqual(raised(call, Book(list("ab"), [["a", "b"], ["a"], []]), "b"), ("NotInAll", 1))
            self.assertEqual(raised(call, Book(["a"], [[]]), "a"), ("NotInAll", 0))
            self.assertIsNone(raised(call, Book(["a"]), "a"))
            self.assertIsNone(raised(call, Book(TWELVE, [TWELVE]), "l"))


class TestSingleParting(unittest.TestCase):
    def test_it_is_met_by_a_list_with_the_three_and_a_further_name(self):
        for count in range(4, 8):
            names = list(LETTERS[:count])
            for three in itertools.permutations(names, 3):
                parting = single_parting(names, three)
                rest = tuple(name for name in names if name not in three)
                self.assertEqual(parting, tuple(sorted([(name,) for name in three] + [rest])))
                self.assertEqual(single_parting(three=list(three), names=names[::-1]), parting)
            for size in range(count + 1):
                for row in itertools.combinations(names, size):
                    self.assertEqual(in_each(row, parting), set(three) <= set(row) and size > 3)

    def test_its_times_are_the_count(self):
        for book, root in rooted_books():
            for three in threes_of(book, root)[::17]:
                parting = single_parting(book.names, three)
                self.assertEqual(list(meeting_lists(book, parting)), holders(book, three))

    def test_examples(self):
        self.assertEqual(single_parting(list("dbca"), list("dcb")), (("a",), ("b",), ("c",), ("d",)))
        self.assertEqual(single_parting(list("abcdef"), list("fae")), (("a",), ("b", "c", "d"), ("e",), ("f",)))
        self.assertEqual(len(single_parting(TWELVE, TWELVE[:3])[3]), 9)
        self.assertEqual(kinds(single_parting(list("abcd"), list("abc"))), (tuple, ((tuple, (str,)),) * 4))

    def test_errors(self):
        for count in (0, 1, 2, 4, 12):
            self.assertEqual(raised(single_parting, ["x"], TWELVE[:count]), ("WrongCount", count))
        self.assertEqual(raised(single_parting, list("abcd"), ["z", "a", "y"]), ("UnknownName", "y"))
        self.assertEqual(raised(single_parting, list("abc"), ["z", "a", "b"]), ("UnknownName", "z"))
        self.assertEqual(raised(single_parting, [], list("cab")), ("UnknownName", "a"))
        self.assertEqual(raised(single_parting, ["a"], list("cab")), ("UnknownName", "b"))
        self.assertEqual(raised(single_parting, list("abc"), list("cab")), ("WrongCount", 3))
        self.assertEqual(raised(single_parting, THIRTEEN, ["A"]), ("TooMany", 12))
        self.assertEqual(raised(single_parting, ["a", "a"], ["A"]), ("RepeatedName", "a"))
        self.assertEqual(raised(single_parting, list("abcd"), ["A", "b", "b"]), ("BadName", "A"))
        self.assertEqual(raised(single_parting, list("abcd"), ["z", "b", "b"]), ("RepeatedName", "b"))
        self.assertEqual(raised(single_parting, list("abcd"), THIRTEEN), ("TooMany", 12))

    def test_arguments_stay(self):
        names, three = list("edcba"), list("cba")
        first = single_parting(names, three)
        self.assertEqual((names, three), (list("edcba"), list("cba")))
        names.append("f")
        self.assertEqual(first, (("a",), ("b",), ("c",), ("d", "e")))


class TestWithRoot(unittest.TestCase):
    def test_books_of_all_sizes(self):
        for count in range(1, 13):
            for book in some_books(3, count) + [Book(LETTERS[:count])]:
                for root in (book.names[0], book.names[-1]):
                    found = with_root(book, root)
                    self.assertEqual(found, Book(book.names, [sorted({*row, root}) for row in book.lists]))
                    self.assertEqual(with_root(root=root, book=book), found)
                    self.assertIn(root, names_in_all(found))

    def test_errors(self):
        for value in ("A", "", None, False, 0):
            self.assertEqual(raised(with_root, BOOK, value), ("BadName", value))
        self.assertEqual(raised(with_root, BOOK, "z"), ("UnknownName", "z"))
        self.assertEqual(raised(with_root, Book([]), "a"), ("UnknownName", "a"))
        self.assertEqual(with_root(Book(list("ab"), [[], ["b"]]), "a"), Book(list("ab"), [["a"], ["a", "b"]]))

    def test_the_book_stays(self):
        book = Book(BOOK.names, BOOK.lists)
        for _ in range(2):
            self.assertEqual(with_root(book, "a").lists[1], ("a", "b", "c", "e"))
            self.assertEqual(root_paper(book, "b"), root_paper(BOOK, "b"))
        self.assertEqual(book, BOOK)


class TestRootPaper(unittest.TestCase):
    def test_books_of_all_sizes(self):
        seen = set()
        for book, root in rooted_books():
            rows = [holders(book, three) for three in threes_of(book, root)]
            told = ("rooted", root, tuple(row[0] for row in rows)) if all(rows) else None
            self.assertEqual(root_paper(book, root), told)
            self.assertEqual(root_paper(root=root, book=book), told)
            seen.add((len(book.names) >= 4, told is None))
            if told is not None:
                self.assertIs(is_root_paper(book, told), True)
                self.assertIs(is_root_paper(paper=told, book=book), True)
                if len(book.names) <= 7:
                    self.assertNotEqual(strength(book), 0)
        self.assertEqual(seen, {(False, False), (True, False), (True, True)})

    def test_examples(self):
        self.assertEqual(root_paper(BOOK, "b"), ("rooted", "b", (0, 3, 3, 2)))
        self.assertEqual(kinds(root_paper(BOOK, "b")), (tuple, (str, str, (tuple, (int,) * 4))))
        for count in range(1, 4):
            self.assertEqual(root_paper(Book(LETTERS[:count]), "a"), ("rooted", "a", ()))
            self.assertEqual(root_paper(Book(LETTERS[:count], [["a"]]), "a"), ("rooted", "a", ()))
        for count in range(4, 13):
            self.assertIsNone(root_paper(Book(LETTERS[:count]), "a"))
        self.assertEqual(root_paper(Book(TWELVE, [["l"], TWELVE]), "l"), ("rooted", "l", (1,) * 165))


class TestJudgingRootPapers(unittest.TestCase):
    def test_each_index_at_each_three(self):
        for root in ("b", "c"):
            _, _, told = root_paper(BOOK, root)
            for at, three in enumerate(threes_of(BOOK, root)):
                for index in [*range(-6, 8), 10 ** 30, -10 ** 30]:
                    paper = ("rooted", root, told[:at] + (index,) + told[at + 1:])
                    self.assertIs(is_root_paper(BOOK, paper), index in holders(BOOK, three))

    def test_too_many_and_too_few(self):
        _, _, told = root_paper(BOOK, "b")
        for wrong in ((), told[:-1], told[1:], told + told[-1:], told * 2):
            self.assertIs(is_root_paper(BOOK, ("rooted", "b", wrong)), False)
        for count in range(1, 4):
            book = Book(LETTERS[:count], [LETTERS[:count]])
            self.assertIs(is_root_paper(book, ("rooted", "a", ())), True)
            self.assertIs(is_root_paper(book, ("rooted", "a", (0,))), False)
            self.assertIs(is_root_paper(Book(book.names), ("rooted", book.names[-1], ())), True)

    def test_other_roots(self):
        book = Book(BOOK.names, [BOOK.names] * 2 + [list("abcd")])
        for root in ("a", "b", "c", "d"):
            self.assertIs(is_root_paper(book, ("rooted", root, (0, 1, 0, 1))), True)
        for root in ("e", "z", "A", "", "no name at all", "ab"):
            self.assertIs(is_root_paper(book, ("rooted", root, (0, 1, 0, 1))), False)
            self.assertIs(is_root_paper(book, ("rooted", root, ())), False)
        self.assertIs(is_root_paper(Book([]), ("rooted", "a", ())), False)
        self.assertIs(is_root_paper(Book(["a", "b"], [["a"], []]), ("rooted", "a", ())), False)
        self.assertIs(is_root_paper(Book(["a", "b"], [["a"], ["a"]]), ("rooted", "b", ())), False)
        self.assertIs(is_root_paper(Book(["a", "b"], [["a"], ["a"]]), ("rooted", "a", ())), True)

    def test_large_books(self):
        book = Book(TWELVE, [TWELVE])
        self.assertIs(is_root_paper(book, ("rooted", "c", (0,) * 165)), True)
        self.assertIs(is_root_paper(book, ("rooted", "c", (0,) * 164)), False)
        self.assertIs(is_root_paper(book, ("rooted", "c", (0,) * 164 + (1,))), False)

    def test_other_papers(self):
        lots = (("a",), ("b",), ("c",), ("d",))
        one, two = Tree(list("abcd")), Tree(list("abcd"), [["c", "d"]])
        for paper in [("tells", (0,)), ("fails", lots, one, two), ("loss", (0,), lots),
                      ("confused", (), one, two, (one,))] + one_paper_of_each_kind(BOOK)[:2]:
            self.assertIs(is_root_paper(Book(list("abcd"), [list("abcd")]), paper), False)
            self.assertIs(is_root_paper(Book(list("abcd")), paper), False)
        self.assertIs(is_root_paper(Book([]), ("tells", ())), False)

    def test_it_raises_nothing(self):
        for book in (Book([]), Book(["a"], [[]]), BOOK, Book(TWELVE)):
            for paper in one_paper_of_each_kind(Book(TWELVE)) + [("tells", ()), ("rooted", "?", (-1,)),
                                                                ("loss", (-5,), ()), ("rooted", "a", (99,) * 4)]:
                self.assertIsNone(raised(is_root_paper, book, paper))


class TestRootLists(unittest.TestCase):
    def test_books_of_all_sizes(self):
        for book, root in rooted_books():
            told = tuple(tuple(sorted(three + (root,))) for three in threes_of(book, root) if not holders(book, three))
            self.assertEqual(root_lists(book, root), told)
            self.assertEqual(root_lists(root=root, book=book), told)
            if len(book.names) <= 7 and len(told) + len(book) <= 12:
                more = Book(book.names, book.lists + told)
                self.assertNotEqual(strength(more), 0)
                self.assertIsNotNone(root_paper(more, root))

    def test_examples(self):
        self.assertEqual(len(root_lists(Book(TWELVE), "f")), 165)
        book = Book(list("abcde"), [list("bcd"), list("cde"), list("abce")])
        self.assertEqual(root_lists(book, "c"), (tuple("abcd"), tuple("acde"), tuple("bcde")))
        self.assertEqual(kinds(root_lists(book, "c")), (tuple, ((tuple, (str,) * 4),) * 3))
        # The order is that of the threes, which need not be that of the lists.
        found = root_lists(Book(list("abcde")), "c")
        self.assertEqual(found, (tuple("abcd"), tuple("abce"), tuple("acde"), tuple("bcde")))
        self.assertEqual(root_lists(Book(list("abcde")), "e")[0], tuple("abce"))
        self.assertEqual(root_lists(BOOK, "b"), ())


if __name__ == "__main__":
    unittest.main()
