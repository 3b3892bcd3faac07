"""Promise [53], [2], [3], [6] for a desk, and the interface of fourmet/desk.py."""

import itertools
import random
import unittest

from fourmet.books import Book
from fourmet.desk import Desk
from fourmet.tellsall import tells_all
from fourmet.unmet import least_met, strength
from helpers import LETTERS, THIRTEEN, TWELVE, kinds, raised, some_books

BOOK = Book(list("abcde"), [list("abcd"), list("abcde"), [], list("abce")])
EDITS = ("add_name", "drop_name", "add_list", "drop_list", "lose", "restore", "undo")


class Model:
    """What a desk should be, as lists of names with marks and whole copies of what was before."""

    def __init__(self, book):
        self.names = set(book.names)
        self.rows = [[set(row), False] for row in book.lists]
        self.past = []

    def state(self):
        return set(self.names), [[set(row), mark] for row, mark in self.rows]

    def apply(self, word, value=None):
        """Do the edit, and return what the desk should return."""
        if word == "undo":
            if not self.past:
                return False
            self.names, self.rows = self.past.pop()
            return True
        before = self.state()
        answer = None
        if word == "add_name":
            self.names.add(value)
        elif word == "drop_name":
            self.names.discard(value)
            for row, _ in self.rows:
                row.discard(value)
        elif word == "add_list":
            answer = len(self.rows)
            self.rows.append([set(value), False])
        elif word == "drop_list":
            answer = tuple(sorted(self.rows.pop(value)[0]))
        else:
            answer = self.rows[value][1] == (word == "restore")
            self.rows[value][1] = word == "lose"
        if answer is not False:
            self.past.append(before)
        return answer

    def book(self):
        return Book(sorted(self.names), [sorted(row) for row, _ in self.rows])

    def left(self):
        return Book(sorted(self.names), [sorted(row) for row, mark in self.rows if not mark])

    def lost(self):
        return tuple(at for at, (_, mark) in enumerate(self.rows) if mark)


def view(desk):
    """All that can be seen of a desk."""
    return (desk.book.names, desk.book.lists, desk.left.lists, desk.lost, desk.strength, desk.tells, desk.weakest,
            desk.edits, len(desk), list(desk))


def possible(model, source):
    """An edit that raises nothing now: a word and its value, if it has one."""
    word = source.choice(EDITS)
    names = sorted(model.names)
    if word == "add_name" and len(names) < 6:
        return word, source.choice([name for name in [*LETTERS[:8], "zz9"] if name not in names])
    if word == "drop_name" and names:
        return word, source.choice(names)
    if word == "add_list" and len(model.rows) < 12:
        return word, source.sample(names, source.randrange(len(names) + 1))
    if word in ("drop_list", "lose", "restore") and model.rows:
        return word, source.randrange(len(model.rows))
    return ("undo",)


class TestEdits(unittest.TestCase):
    def check(self, desk, model):
        book, left = model.book(), model.left()
        self.assertEqual((desk.book, desk.left, desk.lost), (book, left, model.lost()))
        self.assertEqual((desk.strength, desk.weakest), (strength(left), least_met(left)))
        self.assertIs(desk.tells, tells_all(left))
        self.assertEqual((desk.edits, len(desk)), (len(model.past), len(book)))
        self.assertEqual(tuple(desk), book.lists)
        self.assertIs(bool(desk), len(book) > 0)
        for row in book.lists:
            self.assertIs(row in desk, True)
            self.assertIs(list(row) in desk, False)

    def test_any_edits_and_back_to_the_start(self):
        for seed, book in enumerate([BOOK, Book([])] + [book for count in range(7) for book in some_books(2, count)]):
            source = random.Random(seed)
            desk, model = Desk(book), Model(book)
            self.check(desk, model)
            for _ in range(40):
                word, *values = possible(model, source)
                told = model.apply(word, *values)
                found = getattr(desk, word)(*values)
                self.assertEqual(found, told)
                self.assertIs(type(found), type(told))
                self.check(desk, model)
            while model.past:
                self.assertIs(model.apply("undo"), desk.undo())
                self.check(desk, model)
            self.assertIs(desk.undo(), False)
            self.assertEqual((desk.book, desk.lost, desk.edits), (book, (), 0))

    def test_by_name(self):
        desk = Desk(book=BOOK)
        self.assertIsNone(desk.add_name(name="f"))
        self.assertIsNone(desk.drop_name(name="b"))
        self.assertEqual(desk.add_list(names=["f", "a"]), 4)
        self.assertIs(desk.lose(index=4), True)
        self.assertIs(desk.restore(index=4), True)
        self.assertEqual(desk.drop_list(index=1), ("a", "c", "d", "e"))
        self.assertEqual(desk.book, Book(list("acdef"), [list("acd"), [], list("ace"), list("af")]))
        self.assertEqual(desk.edits, 6)

    def test_kinds(self):
        desk = Desk(BOOK)
        desk.lose(3)
        desk.lose(1)
        self.assertEqual(kinds([desk.book, desk.left, desk.lost, desk.strength, desk.tells, desk.edits]),
                         (list, (Book, Book, (tuple, (int, int)), int, bool, int)))
        self.assertEqual(kinds(desk.weakest), (tuple, (int, (tuple, (
            (tuple, (str,)), (tuple, (str,)), (tuple, (str, str)), (tuple, (str,)))))))
        self.assertEqual(desk.lost, (1, 3))
        self.assertEqual(kinds(desk.drop_list(0)), (tuple, (str,) * 4))

    def test_lists_of_the_whole_book(self):
        desk = Desk(BOOK)
        desk.lose(0)
        self.assertIn(("a", "b", "c", "d"), desk)
        self.assertNotIn(("d", "c", "b", "a"), desk)
        self.assertNotIn(["a", "b", "c", "d"], desk)
        self.assertIn((), desk)
        self.assertNotIn([], desk)
        self.assertEqual((len(desk), list(desk)), (4, list(BOOK.lists)))
        self.assertEqual(desk.left, BOOK.without_lists([0]))

    def test_a_desk_without_lists(self):
        desk = Desk(Book(list("abcd")))
        self.assertEqual((len(desk), bool(desk), list(desk), desk.strength, desk.tells), (0, False, [], 0, False))
        self.assertEqual(desk.weakest, (0, (("a",), ("b",), ("c",), ("d",))))
        self.assertIs(() in desk, False)
        desk.add_list([])
        self.assertEqual((len(desk), bool(desk)), (1, True))

    def test_few_names(self):
        for count in range(4):
            desk = Desk(Book(LETTERS[:count], [LETTERS[:count]]))
            self.assertEqual((desk.strength, desk.tells, desk.weakest), (None, True, None))

    def test_losing_and_restoring_twice(self):
        desk = Desk(Book(list("abcd"), [list("abcd"), list("abcd")]))
        self.assertEqual((desk.strength, desk.tells), (2, True))
        self.assertEqual([desk.lose(1), desk.lose(1), desk.edits, desk.lost, desk.strength], [True, False, 1, (1,), 1])
        self.assertEqual([desk.lose(0), desk.lose(0), desk.edits, desk.lost, desk.tells], [True, False, 2, (0, 1), False])
        self.assertEqual([desk.restore(1), desk.restore(1), desk.edits, desk.lost], [True, False, 3, (0,)])
        self.assertEqual([desk.undo(), desk.lost, desk.undo(), desk.lost, desk.undo(), desk.lost],
                         [True, (0, 1), True, (1,), True, ()])
        self.assertEqual([desk.undo(), desk.undo(), desk.edits, desk.lost], [False, False, 0, ()])

    def test_a_mark_on_a_list_that_is_dropped(self):
        desk = Desk(BOOK)
        for at in (0, 1, 3):
            desk.lose(at)
        self.assertEqual(desk.drop_list(1), tuple("abcde"))
        self.assertEqual((desk.lost, len(desk)), ((0, 2), 3))
        self.assertEqual(desk.drop_list(1), ())
        self.assertEqual((desk.lost, desk.left.lists), ((0, 1), ()))
        self.assertIs(desk.undo(), True)
        self.assertEqual(desk.lost, (0, 2))
        self.assertIs(desk.undo(), True)
        self.assertEqual((desk.lost, desk.book), ((0, 1, 3), BOOK))
        self.assertEqual(desk.edits, 3)

    def test_dropping_a_name_keeps_the_marks_and_comes_back_whole(self):
        desk = Desk(BOOK)
        desk.lose(1)
        desk.drop_name("a")
        self.assertEqual((desk.lost, desk.left.lists), ((1,), (("b", "c", "d"), (), ("b", "c", "e"))))
        desk.add_name("a")
        self.assertEqual(desk.book.lists, (("b", "c", "d"), ("b", "c", "d", "e"), (), ("b", "c", "e")))
        self.assertEqual([desk.undo(), desk.undo(), desk.book, desk.lost], [True, True, BOOK, (1,)])

    def test_undo_is_no_edit(self):
        desk = Desk(BOOK)
        desk.add_list(["a"])
        desk.undo()
        self.assertEqual(desk.edits, 0)
        self.assertIs(desk.undo(), False)
        self.assertEqual(desk.book, BOOK)


class TestErrors(unittest.TestCase):
    def assert_refused(self, desk, due, word, *values):
        before = view(desk)
        self.assertEqual(raised(getattr(desk, word), *values), due)
        self.assertEqual(view(desk), before)

    def test_too_many_names(self):
        self.assertIsNone(raised(Desk, Book(LETTERS[:6])))
        self.assertEqual(raised(Desk, Book(LETTERS[:7])), ("TooMany", 6))
        self.assertEqual(raised(Desk, Book(TWELVE, [TWELVE])), ("TooMany", 6))
        desk = Desk(Book(LETTERS[:6], [LETTERS[:3]]))
        self.assert_refused(desk, ("TooMany", 6), "add_name", "g")
        self.assert_refused(desk, ("RepeatedName", "f"), "add_name", "f")
        desk.drop_name("a")
        self.assertIsNone(raised(desk.add_name, "g"))
        self.assertEqual(desk.book.names, tuple("bcdefg"))

    def test_wrong_values(self):
        desk = Desk(BOOK)
        desk.lose(2)
        for value in ("A", "", "abcdefghi", 3, True, False, None):
            self.assert_refused(desk, ("BadName", value), "add_name", value)
            self.assert_refused(desk, ("BadName", value), "drop_name", value)
            self.assert_refused(desk, ("BadName", value), "add_list", ["z", "a", "a", value])
        self.assert_refused(desk, ("RepeatedName", "a"), "add_name", "a")
        self.assert_refused(desk, ("UnknownName", "f"), "drop_name", "f")
        self.assert_refused(desk, ("RepeatedName", "a"), "add_list", ["z", "a", "a"])
        self.assert_refused(desk, ("TooMany", 12), "add_list", THIRTEEN)
        self.assert_refused(desk, ("UnknownName", "x"), "add_list", ["z", "a", "x"])
        for word in ("drop_list", "lose", "restore"):
            for value in (-1, 4, 10 ** 30, True, False, None, "0"):
                self.assert_refused(desk, ("BadNumber", value), word, value)
        self.assertEqual((desk.edits, desk.lost), (1, (2,)))
        empty = Desk(Book([]))
        for word in ("drop_list", "lose", "restore"):
            self.assert_refused(empty, ("BadNumber", 0), word, 0)
        self.assert_refused(empty, ("UnknownName", "a"), "drop_name", "a")

    def test_indexes_are_those_of_the_whole_book(self):
        desk = Desk(BOOK)
        for at in range(3):
            desk.lose(at)
        self.assertEqual(len(desk.left), 1)
        self.assertEqual(desk.drop_list(3), tuple("abce"))
        self.assert_refused(desk, ("BadNumber", 3), "lose", 3)

    def test_too_many_lists(self):
        desk = Desk(Book(list("ab"), [["a"]] * 11))
        self.assertEqual(desk.add_list(["b"]), 11)
        for at in range(12):
            desk.lose(at)
        self.assert_refused(desk, ("TooMany", 12), "add_list", [])
        self.assert_refused(desk, ("TooMany", 12), "add_list", ["a"])
        self.assert_refused(desk, ("UnknownName", "z"), "add_list", ["z"])
        self.assert_refused(desk, ("BadName", "Z"), "add_list", ["Z"])
        self.assertEqual(desk.drop_list(0), ("a",))
        self.assertEqual(desk.add_list([]), 11)


class TestApart(unittest.TestCase):
    def test_two_desks_and_their_book(self):
        book = Book(BOOK.names, BOOK.lists)
        one, two = Desk(book), Desk(book)
        one.add_name("f")
        one.drop_list(0)
        one.lose(0)
        self.assertEqual((book, two.book, two.lost, two.edits), (BOOK, BOOK, (), 0))
        two.lose(3)
        three = Desk(one.book)
        self.assertEqual((one.lost, three.lost, three.edits), ((0,), (), 0))
        three.drop_name("f")
        self.assertEqual(one.book.names, tuple("abcdef"))
        self.assertEqual((two.lost, one.edits, three.edits), ((3,), 3, 1))
        one.undo()
        self.assertEqual((two.lost, three.edits), ((3,), 1))

    def test_what_was_given_out_stays(self):
        desk = Desk(BOOK)
        desk.lose(1)
        book, left, lost, weakest = desk.book, desk.left, desk.lost, desk.weakest
        names = ["a", "c"]
        desk.add_list(names)
        names.append("b")
        desk.drop_name("b")
        desk.lose(0)
        self.assertEqual((book, left, lost), (BOOK, BOOK.without_lists([1]), (1,)))
        self.assertEqual(weakest, least_met(left))
        self.assertEqual(desk.book.lists[4], ("a", "c"))

    def test_equal_questions_have_equal_answers(self):
        for book in [BOOK] + some_books(3, 6):
            desk = Desk(book)
            for at in range(0, len(book), 2):
                desk.lose(at)
            self.assertEqual(view(desk), view(desk))
            first = view(desk)
            for edit, back in itertools.product(range(2), repeat=2):
                desk.add_list([])
                desk.undo()
                self.assertEqual(view(desk), first)


if __name__ == "__main__":
    unittest.main()
