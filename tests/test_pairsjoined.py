"""Promise [44] and the interface of fourmet/pairsjoined.py."""

import itertools
import unittest

from fourmet.books import Book
from fourmet.pairsjoined import (first_unjoined, is_joined, pair_blocks, pair_lists, pair_parting, pair_strength,
                                 pairs_joined, strength_by_pairs)
from fourmet.unmet import strength
from helpers import LETTERS, TWELVE, kinds, meetings, partings_of, raised, some_books

BOOK = Book(list("abcdefg"), [list("abcd"), list("abef"), list("cdg"), list("abc"), list("ab"), list("bcefg")])
OF_TWO = (pair_lists, pair_blocks, is_joined, pair_parting, pair_strength)


def books():
    for count in range(2, 8):
        names = list(LETTERS[:count])
        yield from [Book(names), Book(names, [names]), Book(names, [names[:3], names[1:], sorted({*names[:2], names[-1]})])]
        yield from some_books(10, count, most=6, seed=10)
    for count in (8, 12):
        yield from some_books(4, count, most=5, seed=11)


def blocks_by_hand(book, one, two):
    """The blocks of two names: from each name, all that a chain leads to."""
    others = [name for name in book.names if name not in (one, two)]
    rows = [set(row) for row in book.lists if one in row and two in row]
    blocks = set()
    for name in others:
        block = {name}
        for _ in others:
            block |= {far for far in others for near in block if any(far in row and near in row for row in rows)}
        blocks.add(tuple(sorted(block)))
    return tuple(sorted(blocks))


def partings_with(names, one, two):
    """All partings of the names in which the two names are lots alone."""
    others = [name for name in names if name not in (one, two)]
    for marks in itertools.product((0, 1), repeat=len(others) - 1):
        lot = tuple(name for name, mark in zip(others[1:], marks) if mark)
        if lot:
            yield tuple(sorted([(one,), (two,), lot, tuple(name for name in others if name not in lot)]))


class TestBlocks(unittest.TestCase):
    def test_books_of_all_sizes(self):
        seen = set()
        for book in books():
            for one, two in itertools.permutations(book.names, 2):
                lists = tuple(at for at, row in enumerate(book.lists) if one in row and two in row)
                blocks = blocks_by_hand(book, one, two)
                self.assertEqual(pair_lists(book, one, two), lists)
                self.assertEqual(pair_blocks(book, one, two), blocks)
                self.assertIs(is_joined(book, one, two), len(blocks) <= 1)
                seen.add(min(len(blocks), 5))
                parting = None
                if len(blocks) > 1:
                    rest = tuple(sorted(sum(blocks[1:], ())))
                    parting = tuple(sorted([(one,), (two,), blocks[0], rest]))
                    self.assertEqual(meetings(book, parting), ())
                self.assertEqual(pair_parting(book, one, two), parting)
            self.assertEqual((pair_lists(two=two, one=one, book=book), pair_blocks(two=two, one=one, book=book)),
                             (lists, blocks))
            self.assertEqual((is_joined(two=two, one=one, book=book), pair_parting(two=two, one=one, book=book)),
                             (len(blocks) <= 1, parting))
        self.assertEqual(seen, {0, 1, 2, 3, 4, 5})

    def test_joined_exactly_if_each_parting_is_met(self):
        for book in books():
            if len(book.names) >= 4:
                for one, two in list(itertools.combinations(book.names, 2))[::3]:
                    told = all(meetings(book, parting) for parting in partings_with(book.names, one, two))
                    self.assertIs(is_joined(book, one, two), told)

    def test_examples(self):
        self.assertEqual(pair_lists(BOOK, "b", "a"), (0, 1, 3, 4))
        self.assertEqual(pair_blocks(BOOK, "a", "b"), (("c", "d"), ("e", "f"), ("g",)))
        self.assertEqual(pair_parting(BOOK, "b", "a"), (("a",), ("b",), ("c", "d"), ("e", "f", "g")))
        self.assertEqual(pair_blocks(BOOK, "a", "g"), (("b",), ("c",), ("d",), ("e",), ("f",)))
        self.assertEqual(kinds(pair_blocks(BOOK, "a", "b")), (tuple, ((tuple, (str, str)),) * 2 + ((tuple, (str,)),)))
        self.assertEqual(kinds(pair_lists(BOOK, "a", "b")), (tuple, (int,) * 4))
        self.assertEqual(kinds(pair_parting(BOOK, "a", "g")), (tuple, ((tuple, (str,)),) * 2 + (
            (tuple, (str,) * 4), (tuple, (str,)))))

    def test_neighbours_may_stand_in_different_lists(self):
        book = Book(list("abcdef"), [list("abcd"), list("abde"), list("abef")])
        self.assertEqual(pair_blocks(book, "a", "b"), (tuple("cdef"),))
        # Lists that lack one of the two lead nowhere.
        book = Book(list("abcdef"), [list("abcd"), list("bde"), list("ade"), list("abef"), list("cdef")])
        self.assertEqual(pair_blocks(book, "a", "b"), (("c", "d"), ("e", "f")))

    def test_two_and_three_names(self):
        for lists in ([], [[]], [["a"]], [["a", "b"]]):
            self.assertEqual(pair_blocks(Book(["a", "b"], lists), "b", "a"), ())
            self.assertEqual(pair_blocks(Book(["a", "b", "c"], lists), "c", "a"), (("b",),))
            for names in (["a", "b"], ["a", "b", "c"]):
                book = Book(names, lists)
                self.assertIs(is_joined(book, "a", "b"), True)
                self.assertIsNone(pair_parting(book, "a", "b"))
                self.assertIsNone(pair_strength(book, "a", "b"))
                self.assertIs(pairs_joined(book), True)
                self.assertIsNone(first_unjoined(book))

    def test_errors(self):
        for call in OF_TWO:
            self.assertEqual(raised(call, BOOK, "z", "y"), ("UnknownName", "z"))
            self.assertEqual(raised(call, BOOK, "a", "y"), ("UnknownName", "y"))
            self.assertEqual(raised(call, BOOK, "z", "z"), ("UnknownName", "z"))
            self.assertEqual(raised(call, BOOK, "c", "c"), ("RepeatedName", "c"))
            self.assertEqual(raised(call, Book(["a"]), "a", "a"), ("RepeatedName", "a"))
            self.assertEqual(raised(call, Book(["a"]), "a", "b"), ("UnknownName", "b"))
            self.assertEqual(raised(call, Book([]), "a", "b"), ("UnknownName", "a"))
            self.assertEqual(raised(call, BOOK, "z", "B"), ("BadName", "B"))
            self.assertEqual(raised(call, BOOK, None, "B"), ("BadName", None))
            self.assertEqual(raised(call, BOOK, "a", True), ("BadName", True))


class TestAllPairs(unittest.TestCase):
    def test_books_of_all_sizes(self):
        seen = set()
        for book in books():
            apart = [pair for pair in itertools.combinations(book.names, 2) if len(blocks_by_hand(book, *pair)) > 1]
            self.assertIs(pairs_joined(book), not apart)
            self.assertIs(pairs_joined(book=book), not apart)
            self.assertEqual(first_unjoined(book), apart[0] if apart else None)
            self.assertEqual(first_unjoined(book=book), first_unjoined(book))
            seen.add((not apart, apart[:1] == [("a", "b")]))
        self.assertEqual(seen, {(True, False), (False, True), (False, False)})

    def test_few_names(self):
        for names in ([], ["a"]):
            for lists in ([], [[]], [names]):
                self.assertIs(pairs_joined(Book(names, lists)), True)
                self.assertIsNone(first_unjoined(Book(names, lists)))
        self.assertIs(pairs_joined(Book(TWELVE, [TWELVE])), True)
        self.assertEqual(first_unjoined(Book(TWELVE)), ("a", "b"))
        self.assertEqual(kinds(first_unjoined(Book(TWELVE))), (tuple, (str, str)))


class TestPairStrength(unittest.TestCase):
    def test_books_of_all_sizes(self):
        for book in books():
            for one, two in itertools.permutations(book.names, 2):
                if len(book.names) < 4:
                    self.assertIsNone(pair_strength(book, one, two))
                elif len(book.names) < 8 or (one, two) in (("a", "b"), ("h", "c")):
                    told = min(len(meetings(book, parting)) for parting in partings_with(book.names, one, two))
                    self.assertEqual(pair_strength(book, one, two), told)
                    self.assertEqual(pair_strength(two=two, one=one, book=book), told)
                    self.assertEqual(told > 0, is_joined(book, one, two))
        self.assertEqual(pair_strength(Book(TWELVE, [TWELVE] * 5), "a", "l"), 5)
        self.assertIs(type(pair_strength(BOOK, "a", "b")), int)

    def test_the_strength_by_the_pairs_is_the_strength(self):
        seen = set()
        for count in range(7):
            for book in [Book(LETTERS[:count])] + some_books(12, count, seed=12):
                self.assertEqual(strength_by_pairs(book), strength(book))
                self.assertEqual(strength_by_pairs(book=book), strength(book))
                seen.add(strength(book))
        self.assertGreater(len(seen), 4)
        self.assertIs(type(strength_by_pairs(Book(list("abcd")))), int)

    def test_seven_names(self):
        """With seven names all pairs may be joined although a parting is unmet."""
        self.assertEqual(raised(strength_by_pairs, Book(LETTERS[:7])), ("TooMany", 6))
        self.assertEqual(raised(strength_by_pairs, Book(TWELVE, [TWELVE])), ("TooMany", 6))
        lots = (("a", "b"), ("c", "d"), ("e", "f"), ("g",))
        book = Book(LETTERS[:7], [[name for name in LETTERS[:7] if name not in lot] for lot in lots])
        self.assertEqual([parting for parting in partings_of(book.names) if not meetings(book, parting)], [lots])
        self.assertIs(pairs_joined(book), True)
        self.assertEqual(strength(book), 0)

    def test_books_stay_and_answers_stay(self):
        book = Book(BOOK.names, BOOK.lists)
        first = [call(book, "a", "b") for call in OF_TWO] + [pairs_joined(book), first_unjoined(book)]
        self.assertEqual([call(book, "a", "b") for call in OF_TWO] + [pairs_joined(book), first_unjoined(book)], first)
        self.assertEqual(book, BOOK)


if __name__ == "__main__":
    unittest.main()
