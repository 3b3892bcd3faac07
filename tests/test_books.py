"""Promises [2], [3], [7], [8], [12], [13] and the interface of fourmet/books.py."""

import itertools
import unittest

from fourmet.books import Book
from fourmet.trees import Tree
from helpers import THIRTEEN, TWELVE, kinds, raised

FULL = Book(TWELVE, [[name] for name in TWELVE])


def sample():
    return Book(["d", "b", "a", "c", "e"], [["d", "a", "b", "c"], [], ["b"], ("c", "b", "a", "d"), ["b"]])


class TestMaking(unittest.TestCase):
    def test_names_and_lists(self):
        book = sample()
        self.assertEqual(book.names, ("a", "b", "c", "d", "e"))
        self.assertEqual(book.lists, (("a", "b", "c", "d"), (), ("b",), ("a", "b", "c", "d"), ("b",)))
        self.assertEqual(kinds(book.lists[2:4]), (tuple, ((tuple, (str,)), (tuple, (str,) * 4))))

    def test_by_name_and_defaults(self):
        self.assertEqual(Book(names=["b", "a"], lists=[["b"]]), Book(("a", "b"), (("b",),)))
        self.assertEqual(Book(["a"]).lists, ())
        self.assertEqual((Book([]).names, Book([]).lists), ((), ()))
        self.assertEqual(Book([], [[], []]).lists, ((), ()))

    def test_bounds(self):
        self.assertEqual(len(Book(TWELVE, [TWELVE] * 12)), 12)
        self.assertEqual(raised(Book, THIRTEEN), ("TooMany", 12))
        self.assertEqual(raised(Book, TWELVE, [[]] * 13), ("TooMany", 12))
        self.assertEqual(raised(Book, ["a"], [THIRTEEN]), ("TooMany", 12))

    def test_bad_names(self):
        for value in ("A", "", 1, True, False, None):
            self.assertEqual(raised(Book, [value]), ("BadName", value))
            self.assertEqual(raised(Book, ["a"], [["a"], ["b", value]]), ("BadName", value))

    def test_repeated_names(self):
        self.assertEqual(raised(Book, ["b", "a", "b"]), ("RepeatedName", "b"))
        self.assertEqual(raised(Book, ["a"], [["z"], ["c", "c"]]), ("RepeatedName", "c"))

    def test_unknown_names(self):
        self.assertEqual(raised(Book, ["a"], [["a"], ["z", "y", "a"], ["b"]]), ("UnknownName", "y"))
        self.assertEqual(raised(Book, [], [["a"]]), ("UnknownName", "a"))

    def test_step_one_goes_in_the_order_of_the_signature(self):
        self.assertEqual(raised(Book, ["A"], [["b", "b"]]), ("BadName", "A"))
        self.assertEqual(raised(Book, THIRTEEN, [["B"]]), ("TooMany", 12))
        self.assertEqual(raised(Book, ["a"], [["b", "b"], ["B"]]), ("RepeatedName", "b"))

    def test_step_one_goes_before_step_two(self):
        self.assertEqual(raised(Book, ["a"], [["z"], ["B"]]), ("BadName", "B"))
        self.assertEqual(raised(Book, ["a"], [["z"]] * 13), ("TooMany", 12))
        self.assertEqual(raised(Book, ["a"], [["z"]] * 13 + [["a", "a"]]), ("RepeatedName", "a"))

    def test_later_changes_have_no_effect(self):
        names, row = ["b", "a"], ["b"]
        lists = [row]
        book = Book(names, lists)
        self.assertEqual((names, row, lists), (["b", "a"], ["b"], [["b"]]))
        names.append("c")
        row.append("a")
        lists.append([])
        self.assertEqual((book.names, book.lists), (("a", "b"), (("b",),)))


class TestLooking(unittest.TestCase):
    def test_useful(self):
        self.assertEqual(sample().useful, (0, 3))
        self.assertEqual(Book(TWELVE, [TWELVE[:size] for size in range(12)]).useful, tuple(range(4, 12)))
        self.assertEqual(Book([]).useful, ())
        self.assertIs(type(sample().useful[0]), int)

    def test_length_and_truth(self):
        self.assertEqual([len(Book(["a"], [[]] * many)) for many in range(13)], list(range(13)))
        self.assertIs(bool(Book(TWELVE)), False)
        self.assertIs(bool(Book([], [[]])), True)

    def test_iteration(self):
        book = sample()
        self.assertEqual(list(book), list(book.lists))
        self.assertEqual([list(book), list(book)], [list(book.lists)] * 2)
        self.assertEqual(list(Book(["a"])), [])

    def test_in(self):
        book = sample()
        for value in [("a", "b", "c", "d"), ("b",), ()]:
            self.assertIs(value in book, True)
            self.assertIs(list(value) in book, False)
        for value in [("d", "c", "b", "a"), ("a",), ("a", "b"), ("z",), ("b", "b")]:
            self.assertIs(value in book, False)
        self.assertIs(() in Book(["a"], [["a"]]), False)
        self.assertIs(() in Book([]), False)

    def test_equality(self):
        book = Book(["a", "b"], [["a"], ["b"]])
        self.assertIs(book == Book(("b", "a"), (("a",), ("b",))), True)
        self.assertIs(book != Book(("b", "a"), (("a",), ("b",))), False)
        others = [Book(["a", "b"], [["b"], ["a"]]), Book(["a", "b", "c"], [["a"], ["b"]]), Book(["a", "b"], [["a"]]),
                  Book(["a", "b"], [["a"], ["b"], ["b"]]), Tree(["a", "b"]), (("a", "b"), (("a",), ("b",))), 0, "a",
                  None, ()]
        for other in others:
            self.assertIs(book == other, False)
            self.assertIs(book != other, True)
        self.assertIs(Book([]) == Tree([]), False)
        self.assertIs(Book([]) == (), False)

    def test_holding(self):
        book = sample()
        self.assertEqual(book.holding([]), (0, 1, 2, 3, 4))
        self.assertEqual(book.holding(["b"]), (0, 2, 3, 4))
        self.assertEqual(book.holding(names=("d", "b")), (0, 3))
        self.assertEqual(book.holding(["e"]), ())
        self.assertEqual(Book(["a"]).holding([]), ())
        self.assertEqual(raised(book.holding, ["z", "y", "a"]), ("UnknownName", "y"))
        self.assertEqual(raised(book.holding, ["z", "y", "A"]), ("BadName", "A"))
        self.assertEqual(raised(Book([]).holding, ["a"]), ("UnknownName", "a"))


class TestAdding(unittest.TestCase):
    def test_sum(self):
        one, two = Book(["c", "a"], [["c"], []]), Book(["b", "c"], [["c"], ["b", "c"]])
        self.assertEqual(one + two, Book(["a", "b", "c"], [["c"], [], ["c"], ["b", "c"]]))
        self.assertEqual(two + one, Book(["a", "b", "c"], [["c"], ["b", "c"], ["c"], []]))
        self.assertEqual(one + Book([]), one)
        self.assertEqual((one.names, one.lists), (("a", "c"), (("c",), ())))
        self.assertEqual(two, Book(["b", "c"], [["c"], ["b", "c"]]))

    def test_sum_bounds(self):
        self.assertEqual((Book(TWELVE[:7]) + Book(TWELVE[5:])).names, tuple(TWELVE))
        self.assertEqual(raised(lambda: Book(TWELVE) + Book(["m"])), ("TooMany", 12))
        many = [Book(["a"], [["a"]] * count) for count in range(13)]
        self.assertEqual(len(many[5] + many[7]), 12)
        self.assertEqual(raised(lambda: many[6] + many[7]), ("TooMany", 12))
        self.assertEqual(raised(lambda: many[12] + Book([], [[]])), ("TooMany", 12))

    def test_of_lists(self):
        lists = [["d", "b"], [], ["a"], ["b", "d"]]
        told = Book(["a", "b", "d"], lists)
        self.assertEqual(Book.of_lists(lists), told)
        self.assertEqual(Book.of_lists(lists=tuple(lists)), told)
        self.assertEqual(Book(["z"]).of_lists(lists), told)
        self.assertEqual(Book.of_lists([]), Book([]))
        self.assertEqual(Book.of_lists([[], []]), Book([], [[], []]))
        self.assertEqual(Book.of_lists([[name] for name in TWELVE]), FULL)
        self.assertEqual(lists, [["d", "b"], [], ["a"], ["b", "d"]])

    def test_of_lists_errors(self):
        self.assertEqual(raised(Book.of_lists, [TWELVE, ["m"]]), ("TooMany", 12))
        self.assertEqual(raised(Book.of_lists, [[]] * 13), ("TooMany", 12))
        self.assertEqual(raised(Book.of_lists, [["a"], ["b", "b"], ["A"]]), ("RepeatedName", "b"))
        self.assertEqual(raised(Book.of_lists, [TWELVE, ["m"], ["A"]]), ("BadName", "A"))

    def test_with_list(self):
        book = Book(["b", "a"], [["b"]])
        self.assertEqual(book.with_list(["b", "a"]), Book(["a", "b"], [["b"], ["a", "b"]]))
        self.assertEqual(book.with_list(names=()), Book(["a", "b"], [["b"], []]))
        self.assertEqual(book.with_list(["b"]).lists, (("b",), ("b",)))
        self.assertEqual(book.lists, (("b",),))

    def test_with_list_errors(self):
        self.assertEqual(len(Book(["a"], [[]] * 11).with_list(["a"])), 12)
        self.assertEqual(raised(FULL.with_list, []), ("TooMany", 12))
        self.assertEqual(raised(FULL.with_list, ["z", "a", "m"]), ("UnknownName", "m"))
        self.assertEqual(raised(FULL.with_list, ["z", "a", "a"]), ("RepeatedName", "a"))
        self.assertEqual(raised(FULL.with_list, THIRTEEN), ("TooMany", 12))

    def test_with_name(self):
        book = Book(["b"], [["b"]])
        self.assertEqual(book.with_name("a"), Book(["a", "b"], [["b"]]))
        self.assertEqual(book.with_name(name="c0"), Book(["b", "c0"], [["b"]]))
        self.assertEqual(Book([]).with_name("a"), Book(["a"]))
        self.assertEqual(book.names, ("b",))

    def test_with_name_errors(self):
        self.assertEqual(raised(FULL.with_name, "m"), ("TooMany", 12))
        self.assertEqual(raised(FULL.with_name, "l"), ("RepeatedName", "l"))
        self.assertEqual(len(Book(TWELVE[:11]).with_name("z").names), 12)
        for value in ("A", "", 0, True, None):
            self.assertEqual(raised(FULL.with_name, value), ("BadName", value))


class TestTaking(unittest.TestCase):
    def test_without_name(self):
        book = sample()
        self.assertEqual(book.without_name("b"),
                         Book(["a", "c", "d", "e"], [["a", "c", "d"], [], [], ["a", "c", "d"], []]))
        self.assertEqual(book.without_name(name="e"), Book(["a", "b", "c", "d"], book.lists))
        self.assertEqual(Book(["a"], [["a"]]).without_name("a"), Book([], [[]]))
        self.assertEqual(book, sample())

    def test_without_name_errors(self):
        self.assertEqual(raised(sample().without_name, "z"), ("UnknownName", "z"))
        self.assertEqual(raised(Book([]).without_name, "a"), ("UnknownName", "a"))
        for value in ("A", None, 1, False):
            self.assertEqual(raised(sample().without_name, value), ("BadName", value))

    def test_lists_by_index(self):
        book = sample()
        for size in range(4):
            for indexes in itertools.product(range(5), repeat=size):
                stay = [row for at, row in enumerate(book.lists) if at in indexes]
                go = [row for at, row in enumerate(book.lists) if at not in indexes]
                self.assertEqual(book.only_lists(list(indexes)), Book(book.names, stay))
                self.assertEqual(book.only_lists(indexes=indexes), Book(book.names, stay))
                self.assertEqual(book.without_lists(list(indexes)), Book(book.names, go))
                self.assertEqual(book.without_lists(indexes=indexes), Book(book.names, go))
        self.assertEqual(Book(["a"]).only_lists([]), Book(["a"]))
        self.assertEqual(Book(["a"]).without_lists(()), Book(["a"]))
        self.assertEqual(book, sample())

    def test_bad_indexes(self):
        for call in (sample().only_lists, sample().without_lists):
            for value in (5, -1, 12, True, False, None, "0", "a"):
                self.assertEqual(raised(call, [0, value]), ("BadNumber", value))
                self.assertEqual(raised(call, (value, 9)), ("BadNumber", value))
            try:
                call([True])
            except ValueError as error:
                self.assertIs(error.number, True)
        for call in (Book(["a"]).only_lists, Book(["a"]).without_lists):
            for value in (0, -1, 1):
                self.assertEqual(raised(call, [value]), ("BadNumber", value))

    def test_distinct(self):
        self.assertEqual(sample().distinct(), Book(sample().names, [["a", "b", "c", "d"], [], ["b"]]))
        self.assertEqual(Book(["a", "b"], [["b"], ["a"], ["a"], ["b"], []]).distinct(),
                         Book(["a", "b"], [["b"], ["a"], []]))
        self.assertEqual(Book(["a"]).distinct(), Book(["a"]))


class TestNeverChanging(unittest.TestCase):
    def test_properties_cannot_be_set(self):
        book = sample()
        for word in ("names", "lists", "useful"):
            with self.assertRaises(AttributeError):
                setattr(book, word, ())
        self.assertEqual(book, sample())

    def test_errors_leave_the_book(self):
        book = sample()
        raised(book.with_list, ["z"])
        raised(book.with_name, "a")
        raised(book.without_name, "z")
        raised(book.without_lists, [0, 9])
        raised(book.only_lists, [0, 9])
        self.assertEqual(book, sample())


if __name__ == "__main__":
    unittest.main()
