"""Promises [54] to [58] and the interface of fourmet/papers.py; [42], [43], [46], [47] for papers as texts."""

import itertools
import unittest

from fourmet.bothtrees import both_trees
from fourmet.books import Book
from fourmet.common import root_paper
from fourmet.lies import confusion
from fourmet.losses import fatal_loss
from fourmet.papers import (is_right, judge, read_book, read_paper, read_parting, write_book, write_paper,
                            write_parting)
from fourmet.tellsall import verdict
from fourmet.trees import Tree
from fourmet.treetext import write_tree
from helpers import (BIG, FAULTY, LETTERS, MESSY, SEVEN, THIRTEEN, TWELVE, caterpillar, faulty_partings, kinds, raised,
                     some_books, turned_partings)

BOOK = Book(list("abcde"), [list("abcd"), list("abcde"), [], list("abce"), list("abde"), list("acde")])
FOUR = (("a",), ("b",), ("c",), ("d",))
NUMBERS = (-1, 13, 10 ** 30, True, False, None, "1")
ONE, TWO, STAR = Tree(list("abcd"), [["c", "d"]]), Tree(list("abcd"), [["b", "d"]]), Tree(list("abcd"))
PAPERS = {
    "tells": ("tells", ()), "tells 0": ("tells", (0,)), "tells 7 12 7 99": ("tells", (7, 12, 7, 99)),
    "rooted a": ("rooted", "a", ()), "rooted zz9 3 10 3": ("rooted", "zz9", (3, 10, 3)),
    "fails a|b|c|d (a,b,(c,d)) (a,(b,d),c)": ("fails", FOUR, ONE, TWO),
    "fails a,f|b|c,d,g|e () (x)": ("fails", SEVEN, Tree([]), Tree(["x"])),
    "loss - a|b|c|d": ("loss", (), FOUR), "loss 5 a|b|c|d": ("loss", (5,), FOUR),
    "loss 10,0,10,99 a,f|b|c,d,g|e": ("loss", (10, 0, 10, 99), SEVEN),
    "confused - (a,b,(c,d)) (a,(b,d),c)": ("confused", (), ONE, TWO, ()),
    "confused 2,1 (a,b,c,d) () (a) (a,b) (a,b,(c,d))": ("confused", (2, 1), STAR, Tree([]),
                                                        (Tree(["a"]), Tree(["a", "b"]), ONE)),
}


def books():
    for count in range(8):
        names = list(LETTERS[:count])
        yield from [Book(names), Book(names, [names]), Book(names, [names] * 12), Book(names, [[], names[1:], names])]
        yield from some_books(3, count, seed=81)


def papers_for(book):
    """All papers that the program makes for the book, with the numbers for which they are right."""
    found = [(verdict(book), {})]
    for root in book.names:
        if all(root in row for row in book.lists):
            found.append((root_paper(book, root), {}))
    loss = fatal_loss(book)
    if loss is not None:
        found.append((loss, {"lost": len(loss[1])}))
    for lost, lying in ((0, 0), (1, 0), (0, 1), (3, 2), (12, 12)):
        found.append((confusion(book, lost=lost, lying=lying), {"lost": lost, "lying": lying}))
    return [(paper, numbers) for paper, numbers in found if paper is not None]


class TestBookTexts(unittest.TestCase):
    def test_books(self):
        for book in [*books(), Book(TWELVE, [TWELVE] * 12), Book(["abcdefgh", "a"], [["abcdefgh"]])]:
            lines = [" ".join(["names", *book.names])] + [" ".join(["list", *row]) for row in book.lists]
            text = "\n".join(lines)
            self.assertEqual(write_book(book), text)
            self.assertEqual(write_book(book=book), text)
            self.assertEqual(read_book(text), book)
            turned = "\n".join(" ".join([line.split(" ")[0], *line.split(" ")[:0:-1]]) for line in lines)
            self.assertEqual(read_book(text=turned), book)

    def test_examples(self):
        self.assertEqual(write_book(Book(["b", "a"], [["b", "a"], []])), "names a b\nlist a b\nlist")
        self.assertEqual((write_book(Book([])), read_book("names")), ("names", Book([])))
        self.assertEqual(read_book("names\nlist\nlist"), Book([], [[], []]))
        self.assertIs(type(write_book(Book([]))), str)

    def test_lines_without_their_form(self):
        for text, at in (("", 0), ("\n", 0), (" ", 0), ("names ", 0), (" names", 0), ("names  a", 0), ("names a ", 0),
                         ("list a", 0), ("name a", 0), ("namesa", 0), ("Names a", 0), ("names a\n", 1),
                         ("names a\nnames a", 1), ("names a\nlist ", 1), ("names a\nlist  a", 1), ("names a\nlist a\n", 2),
                         ("names a\nlist a\n\nlist a", 2), ("names a\nlists a\nlist  a", 1), ("names a\nlista", 1),
                         ("names a\nlist z\nlist b b\nlist ", 3), ("names B\nlist", None), ("names a\nlist a ", 1),
                         ("names " + " ".join(THIRTEEN) + "\nlist\nx", 2), ("names a\n list a", 1)):
            due = ("BadName", "B") if at is None else ("BadLine", at)
            self.assertEqual(raised(read_book, text), due)

    def test_what_the_book_raises(self):
        for names, lists in ((["a", "B"], [["a", "a"]]), (["a", "a", "B"], []), (["a", "a"], [["B"]]), (THIRTEEN, [["B"]]),
                             (["a"], [["z"], ["a", "a"]]), (["a"], [["z"], THIRTEEN, ["B"]]), (["a"], [["a"]] * 13),
                             (["a"], [["z"]] * 13), (["a"], [["a"], ["z", "c", "a"], ["b"]]), ([], [["a"]]), (["a-"], []),
                             (["a"], [["1"]]), (["abcdefghi"], [])):
            text = "\n".join([" ".join(["names", *names])] + [" ".join(["list", *row]) for row in lists])
            due = raised(Book, names, lists)
            self.assertIsNotNone(due)
            self.assertEqual(raised(read_book, text), due)

    def test_lengths(self):
        self.assertEqual(raised(read_book, "names" + " a" * 3997), ("RepeatedName", "a"))
        self.assertEqual(raised(read_book, "names" + " a" * 3997 + " "), ("BadLine", 0))
        self.assertEqual(len("names" + " a" * 3997 + " "), 8000)
        self.assertEqual(raised(read_book, "names" + " a" * 3998), ("TooMany", 8000))
        self.assertEqual(raised(read_book, " " * 8001), ("TooMany", 8000))
        self.assertEqual(raised(read_book, " " * 8000), ("BadLine", 0))


class TestPartingTexts(unittest.TestCase):
    def test_partings(self):
        for parting in (FOUR, SEVEN, BIG):
            text = "|".join(",".join(lot) for lot in parting)
            for turned in turned_partings(parting):
                self.assertEqual(write_parting(turned), text)
                self.assertEqual(read_parting("|".join(",".join(lot) for lot in turned)), parting)
            self.assertEqual(write_parting(parting=list(map(list, parting))), text)
            self.assertEqual(read_parting(text=text), parting)
        self.assertEqual(write_parting(MESSY), "a,f|b|c,d,g|e")
        self.assertEqual(kinds(read_parting("b|a|d,e|c")), kinds(read_parting("a|b|c|d,e"))[:1] + (
            ((tuple, (str,)), (tuple, (str,)), (tuple, (str,)), (tuple, (str, str))),))
        self.assertIs(type(write_parting(FOUR)), str)

    def test_wrong_partings(self):
        for lots, due in FAULTY:
            self.assertEqual(raised(write_parting, lots), due)
            words = [name for lot in lots for name in lot]
            # A text has a word in each lot, and words are strings.
            if lots and all(lots) and all(isinstance(word, str) for word in words):
                self.assertEqual(raised(read_parting, "|".join(",".join(lot) for lot in lots)), due)

    def test_wrong_texts(self):
        for text, due in (("", ("BadName", "")), ("a|b|c", ("BadParting",)), ("a|b|c|", ("BadName", "")),
                          ("a|b||d", ("BadName", "")), ("a,|b|c|d", ("BadName", "")), ("a|b|c|d|e", ("BadParting",)),
                          ("a|b|c|d\n", ("BadName", "d\n")), ("a |b|c|d", ("BadName", "a ")), ("a|b|c|c", ("BadParting",)),
                          ("a,a,B|b|c|d", ("BadName", "B")), ("a,a|B|c|d", ("RepeatedName", "a")), ("a", ("BadParting",)),
                          (",", ("BadName", "")), ("|", ("BadName", "")), ("a|b|c|d,A", ("BadName", "A")),
                          ("a;b|c|d|e", ("BadName", "a;b")), ("a" * 8000, ("BadName", "a" * 8000)),
                          ("a" * 8001, ("TooMany", 8000)), ("|" * 8001, ("TooMany", 8000)), ("|" * 8000, ("BadName", ""))):
            self.assertEqual(raised(read_parting, text), due)


class TestPaperTexts(unittest.TestCase):
    def test_papers(self):
        for text, paper in PAPERS.items():
            self.assertEqual(write_paper(paper), text)
            self.assertEqual(write_paper(paper=paper), text)
            self.assertEqual(read_paper(text), paper)
            self.assertEqual(read_paper(text=text), paper)
            self.assertEqual(kinds(read_paper(text)), kinds(paper))
            self.assertIs(type(write_paper(paper)), str)

    def test_papers_of_books(self):
        seen = set()
        for book in books():
            for paper, numbers in papers_for(book):
                text = write_paper(paper)
                seen.add(paper[0])
                self.assertLess(len(text), 8000)
                self.assertEqual(read_paper(text), paper)
                self.assertIs(is_right(book, paper, **numbers), True)
                self.assertIs(is_right(paper=paper, book=book, **numbers), True)
                self.assertIs(judge(book, text, **numbers), True)
                self.assertIs(judge(text=text, book=book, **numbers), True)
        self.assertEqual(seen, {"tells", "fails", "rooted", "loss", "confused"})

    def test_the_parting_is_written_in_its_held_form(self):
        for turned in turned_partings(SEVEN):
            one, two = both_trees(SEVEN)
            for paper in (("fails", turned, one, two), ("loss", (3,), turned)):
                self.assertIn(" a,f|b|c,d,g|e", write_paper(paper))
                self.assertIn(SEVEN, read_paper(write_paper(paper)))

    def test_reading_takes_other_orders(self):
        paper = read_paper("fails e|g,d,c|f,a|b ((c,d),(a,b)) ((b,d),c,a)")
        self.assertEqual(paper, ("fails", SEVEN, ONE, TWO))
        self.assertEqual(write_paper(paper), "fails a,f|b|c,d,g|e (a,b,(c,d)) (a,(b,d),c)")
        self.assertEqual(read_paper("loss 3,1,2 d|c|b|a"), ("loss", (3, 1, 2), FOUR))

    def test_writing_has_no_bound(self):
        text = write_paper(("tells", (99,) * 4000))
        self.assertEqual(text, "tells" + " 99" * 4000)
        self.assertEqual(raised(read_paper, text), ("TooMany", 8000))
        big = caterpillar(12)
        paper = ("confused", (0,), big, big, (big,) * 300)
        self.assertEqual(write_paper(paper).count(write_tree(big)), 302)
        self.assertGreater(len(write_paper(paper)), 8000)
        text = "tells" + " 0" * 3997
        self.assertEqual((len(text), read_paper(text)), (7999, ("tells", (0,) * 3997)))
        self.assertEqual(raised(read_paper, text + "0"), ("BadPaper",))
        self.assertEqual(raised(read_paper, text + "00"), ("TooMany", 8000))
        self.assertEqual(raised(read_paper, " " * 8001), ("TooMany", 8000))

    def test_index_words(self):
        words = {str(index): index for index in range(100)}
        for word in [str(index) for index in range(130)] + ["00", "01", "07", "09", "+1", "-1", "1.", "", "a", "1a", "1_0",
                                                            "1\n", "\n1", "-", "1,2", "1 ", "0x1", "000"]:
            due = None if word in words else ("BadPaper",)
            for text in ("tells " + word, "rooted a " + word, "tells 0 " + word + " 5", "rooted a 0 " + word):
                self.assertEqual(raised(read_paper, text), due, text)
            if word in words:
                self.assertEqual(read_paper("rooted a 5 " + word), ("rooted", "a", (5, words[word])))
                self.assertEqual(read_paper("loss " + word + " a|b|c|d"), ("loss", (words[word],), FOUR))
                self.assertEqual(read_paper("loss 0," + word + " a|b|c|d"), ("loss", (0, words[word]), FOUR))

    def test_indexes_words(self):
        for word in ("", ",", ",1", "1,", "1,,2", "1,,", "-,1", "1,-", "--", "-1", "0,00", "07", "1,100", "1;2", "a", "1, 2",
                     "1,2,", ",-", "\n"):
            self.assertEqual(raised(read_paper, "loss " + word + " a|b|c|d"), ("BadPaper",))
            self.assertEqual(raised(read_paper, "confused " + word + " () ()"), ("BadPaper",))
        self.assertEqual(read_paper("confused 1,2 () ()"), ("confused", (1, 2), Tree([]), Tree([]), ()))
        self.assertEqual(read_paper("loss 12,7,0 a|b|c|d"), ("loss", (12, 7, 0), FOUR))

    def test_numbers_of_words_and_first_words(self):
        for text in ("", " ", "tell", "tells ", " tells", "tells  0", "tells 0 ", "Tells", "tells\n", "rooted", "rooted ",
                     "rooted a ", "rooted  0", "fails", "fails a|b|c|d", "fails a|b|c|d ()", "fails a|b|c|d () () ()",
                     "fails a|b|c|d () () ", "loss", "loss -", "loss - a|b|c|d 0", "loss - a|b|c|d ", "loss  a|b|c|d",
                     "confused", "confused -", "confused - ()", "confused - () ", "confused  () ()", "confused () ()",
                     "confused - () () ", "judge", "paper 0", "- tells", "tellsfails"):
            self.assertEqual(raised(read_paper, text), ("BadPaper",), text)

    def test_which_error_is_first(self):
        for text, due in (
                ("rooted B 07", ("BadPaper",)), ("rooted B 7", ("BadName", "B")), ("rooted 1 1", ("BadName", "1")),
                ("rooted a|b", ("BadName", "a|b")), ("loss 1,,2 a|b|c", ("BadPaper",)), ("loss 1 a|b|c", ("BadParting",)),
                ("loss 1 a|b|c|B", ("BadName", "B")), ("loss - a||c|d", ("BadName", "")),
                ("loss - a|b|c|d,d", ("RepeatedName", "d")), ("loss - " + ",".join(THIRTEEN), ("TooMany", 12)),
                ("fails a|b|c (a (b", ("BadParting",)), ("fails a|b|c|d (a (b", ("BadText", 2)),
                ("fails a|b|c|d (a) (b", ("BadText", 2)), ("fails a|b|c|d (a,a) (b", ("RepeatedName", "a")),
                ("fails a|b|c|d (a) x", ("BadText", 0)), ("fails B|b|c|d x y", ("BadName", "B")),
                ("fails a|b|c|d " + "(" * 401 + " x", ("TooMany", 400)), ("fails a|b|c|d x " + "(" * 401, ("BadText", 0)),
                ("fails a|b|c|d () (" + ",".join(THIRTEEN) + ")", ("TooMany", 12)),
                ("confused 1 () (a,b,c,c) x", ("RepeatedName", "c")), ("confused 1 () () () x ((", ("BadText", 0)),
                ("confused 01 x y", ("BadPaper",)), ("confused - x ()", ("BadText", 0)),
                ("confused - () () () (a,b", ("BadText", 4)), ("fails a|b|c|d () (a)\n", ("BadText", 3)),
                ("loss 1 a|b|c|d\n", ("BadName", "d\n")), ("rooted a\n", ("BadName", "a\n"))):
            self.assertEqual(raised(read_paper, text), due, text)
            self.assertEqual(raised(judge, BOOK, text, lost=-1), due, text)

    def test_spoilt_at_one_place(self):
        """A text with one sign more or less is read as the same paper as by a plain reader, or it is refused."""
        for text in PAPERS:
            for at in range(len(text) + 1):
                for spoilt in [text[:at] + text[at + 1:]] + [text[:at] + sign + text[at:] for sign in " ,|()-0a"]:
                    due = raised(read_paper, spoilt)
                    if due is None:
                        paper = read_paper(spoilt)
                        self.assertEqual(read_paper(write_paper(paper)), paper)
                        self.assertEqual(paper[0], spoilt.split(" ")[0])
                        self.assertEqual(sum(map(spoilt.count, "0123456789")), sum(
                            map(write_paper(paper).count, "0123456789")))
                    else:
                        self.assertIn(due[0], ("BadPaper", "BadName", "BadParting", "BadText", "RepeatedName", "TooMany"))


class TestJudging(unittest.TestCase):
    def check(self, book, paper, told, **numbers):
        self.assertIs(is_right(book, paper, **numbers), told)
        self.assertIs(judge(book, write_paper(paper), **numbers), told)

    def test_numbers_left_out(self):
        loss, lost = fatal_loss(BOOK), len(fatal_loss(BOOK)[1])
        self.assertGreater(lost, 0)
        for number in range(13):
            self.check(BOOK, loss, number >= lost, lost=number)
            self.check(BOOK, loss, number >= lost, lost=number, lying=12)
        self.check(BOOK, loss, False)
        self.check(BOOK, loss, False, lying=12)
        open_book = Book(list("abcd"))
        self.check(open_book, ("loss", (), FOUR), True)
        self.check(open_book, ("confused", (), ONE, TWO, ()), True)
        paper = confusion(BOOK, lost=1, lying=1)
        for lost, lying in itertools.product(range(3), repeat=2):
            self.check(BOOK, paper, lost >= 1 and lying >= 1, lost=lost, lying=lying)
        self.check(BOOK, paper, False)
        self.check(BOOK, paper, False, lost=1)
        self.check(BOOK, paper, False, lying=1)

    def test_verdicts_and_root_papers_need_no_numbers(self):
        for paper in (verdict(BOOK), verdict(Book(list("abcde"), [list("abcd")]))):
            book = BOOK if paper[0] == "tells" else Book(list("abcde"), [list("abcd")])
            for lost, lying in itertools.product((0, 3, 12), repeat=2):
                self.check(book, paper, True, lost=lost, lying=lying)
        book = BOOK.without_lists([2])
        self.check(book, root_paper(book, "a"), True)
        self.check(book, root_paper(book, "a"), True, lost=12, lying=12)
        self.check(BOOK, root_paper(book, "a"), False)

    def test_spoilt_papers(self):
        word, indexes = verdict(BOOK)
        for at in range(len(indexes)):
            self.check(BOOK, (word, indexes[:at] + (2,) + indexes[at + 1:]), False)
            self.check(BOOK, (word, indexes[:at] + (6,) + indexes[at + 1:]), False)
            self.check(BOOK, (word, indexes[:at] + (1,) + indexes[at + 1:]), True)
            self.check(BOOK, (word, indexes[:at] + indexes[at + 1:]), False)
        self.check(BOOK, (word, indexes + (0,)), False)
        book = BOOK.without_lists([2])
        word, root, indexes = root_paper(book, "a")
        for wrong in (indexes[:-1], indexes + (0,), indexes[:-1] + (5,), ()):
            self.check(book, (word, root, wrong), False)
        for name in ("b", "z", "f"):
            self.check(book, (word, name, indexes), False)
        word, indexes, parting = fatal_loss(BOOK)
        for wrong in (indexes[1:], indexes + indexes[:1], indexes + (6,), indexes + (99,)):
            self.check(BOOK, (word, wrong, parting), False, lost=12)
        self.check(BOOK, (word, indexes[::-1], parting), True, lost=12)
        self.check(BOOK, (word, indexes, FOUR), False, lost=12)
        self.check(BOOK, (word, indexes, SEVEN), False, lost=12)
        word, indexes, one, two, trees = confusion(BOOK, lost=1, lying=1)
        for wrong in ((word, indexes, one, one, trees), (word, indexes, one, two, trees[1:]), (word, (), one, two, trees),
                      (word, indexes, one, two, trees + trees[:1]), (word, indexes, STAR, two, trees),
                      (word, indexes + indexes, one, two, trees), (word, (6,), one, two, trees)):
            self.check(BOOK, wrong, False, lost=1, lying=1)

    def test_partings_that_are_none(self):
        one, two = both_trees(FOUR)
        book = Book(list("abcd"))
        for lots in faulty_partings(FOUR):
            self.assertIs(is_right(book, ("fails", lots, one, two)), False)
            self.assertIs(is_right(book, ("loss", (), lots), lost=12), False)
        for lots in turned_partings(FOUR):
            self.assertIs(is_right(book, ("fails", lots, one, two)), True)
            self.assertIs(is_right(book, ("loss", (), lots)), True)

    def test_numbers_are_checked_for_every_paper(self):
        for text, paper in PAPERS.items():
            for value in NUMBERS:
                for book in (BOOK, Book([]), Book(TWELVE)):
                    self.assertEqual(raised(is_right, book, paper, lost=value), ("BadNumber", value))
                    self.assertEqual(raised(is_right, book, paper, lying=value), ("BadNumber", value))
                    self.assertEqual(raised(is_right, book, paper, lying=-7, lost=value), ("BadNumber", value))
                    self.assertEqual(raised(judge, book, text, lost=value), ("BadNumber", value))
                    self.assertEqual(raised(judge, book, text, lying=value), ("BadNumber", value))
                    self.assertEqual(raised(judge, book, text, lying=-7, lost=value), ("BadNumber", value))

    def test_books_of_more_than_seven_names(self):
        for book in (Book(LETTERS[:8]), Book(TWELVE, [TWELVE])):
            for text, paper in PAPERS.items():
                due = ("TooMany", 7) if paper[0] == "tells" else None
                self.assertEqual(raised(is_right, book, paper), due)
                self.assertEqual(raised(judge, book, text, lost=12, lying=12), due)
        book = Book(TWELVE, [TWELVE])
        self.check(book, root_paper(book, "c"), True)
        one, two = both_trees(BIG)
        self.check(Book(TWELVE, [TWELVE[:4]]), ("fails", BIG, one, two), True)
        self.check(book, ("confused", (0,), one, two, ()), True, lost=1)
        self.check(book, ("loss", (0,), BIG), True, lost=1)
        self.assertEqual(raised(judge, Book(TWELVE), "tells 0x"), ("BadPaper",))

    def test_books_and_papers_stay(self):
        book = Book(BOOK.names, BOOK.lists)
        paper = confusion(book, lost=1, lying=1)
        for _ in range(2):
            self.assertEqual(read_paper(write_paper(paper)), paper)
            self.assertIs(judge(book, write_paper(paper), lost=1, lying=1), True)
            self.assertEqual(read_book(write_book(book)), BOOK)
        self.assertEqual((book, paper), (BOOK, confusion(BOOK, lost=1, lying=1)))


if __name__ == "__main__":
    unittest.main()
