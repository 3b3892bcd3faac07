"""Promise [59] and the interface of fourmet/script.py; [53] for the desk of a script."""

import random
import unittest

from fourmet.books import Book
from fourmet.common import names_in_all, root_paper
from fourmet.cutdown import true_telling
from fourmet.desk import Desk
from fourmet.fill import fill
from fourmet.losses import bears, fatal_loss
from fourmet.papers import judge, write_book, write_paper, write_parting
from fourmet.readoff import read_off
from fourmet.script import run, run_line
from fourmet.tellsall import verdict
from fourmet.treetext import read_tree, write_tree
from fourmet.unmet import meeting_lists, strength
from helpers import LETTERS, caterpillar, raised, some_books, trees_on

BOOK = Book(list("abcde"), [list("abcd"), list("abce"), [], list("acde"), list("abde"), list("abcde")])
WORDS = {"name": 1, "unname": 1, "drop": 1, "lose": 1, "restore": 1, "undo": 0, "show": 0, "strength": 0, "bears": 2,
         "verdict": 0, "common": 0, "rooted": 1, "fill": 0, "loss": 0, "times": 1, "cut": 1, "part": 2}
SAMPLES = {"name": "name f", "unname": "unname a", "drop": "drop 0", "lose": "lose 1", "restore": "restore 0", "undo": "undo",
           "show": "show", "strength": "strength", "bears": "bears 0 0", "verdict": "verdict", "common": "common",
           "rooted": "rooted a", "fill": "fill", "loss": "loss", "times": "times a|b|c|d,e", "cut": "cut (a,b,(c,(d,e)))",
           "part": "part (a,b,(c,d)) (a,c,(b,d))", "list": "list a b", "judge": "judge loss - a|b|c|d,e"}


def view(desk):
    return (desk.book.names, desk.book.lists, desk.lost, desk.edits)


def desk_with(book, lost=()):
    desk = Desk(book)
    for at in lost:
        desk.lose(at)
    return desk


def answers_by_hand(desk):
    """What the lines that only ask should answer, from what the functions say of the left book."""
    left, whole = desk.left, desk.book
    found = {}
    lost = "; lost " + ",".join(map(str, desk.lost)) if desk.lost else ""
    found["show"] = "; ".join(write_book(whole).split("\n")) + lost
    found["strength"] = "none" if strength(left) is None else str(strength(left))
    for lost, lying in ((0, 0), (1, 0), (0, 1), (2, 1), (12, 12)):
        found[f"bears {lost} {lying}"] = "yes" if bears(left, lost=lost, lying=lying) else "no"
    found["verdict"] = write_paper(verdict(left))
    found["common"] = " ".join(names_in_all(left)) or "-"
    for name in whole.names:
        if name in names_in_all(left):
            paper = root_paper(left, name)
            found["rooted " + name] = "none" if paper is None else write_paper(paper)
        else:
            found["rooted " + name] = "refused"
    found["fill"] = " ".join(",".join(row) for row in fill(left)) or "none"
    found["loss"] = "none" if fatal_loss(left) is None else write_paper(fatal_loss(left))
    if len(whole.names) >= 4:
        names = whole.names
        parting = (names[:1], names[1:2], names[2:-1], names[-1:])
        found["times " + "|".join(map(",".join, parting))] = str(len(meeting_lists(left, parting)))
    tree = trees_on(whole.names)[-1]
    cuts = [write_tree(told) for told in true_telling(tree, left)]
    found["cut " + write_tree(tree)] = " ".join(cuts) or "none"
    for paper in (verdict(left), fatal_loss(left)):
        if paper is not None:
            text = write_paper(paper)
            found["judge " + text] = "right" if judge(left, text) else "wrong"
    return found


class TestAnswers(unittest.TestCase):
    def test_what_the_lines_ask(self):
        for book in [BOOK, Book([])] + [book for count in range(7) for book in some_books(3, count, seed=91)]:
            for lost in ((), range(0, len(book), 2), range(len(book))):
                desk = desk_with(book, lost)
                before = view(desk)
                for line, told in answers_by_hand(desk).items():
                    found = run_line(desk, line)
                    self.assertEqual(found, told, line)
                    self.assertIs(type(found), str)
                    self.assertEqual(run_line(line=line, desk=desk), told)
                self.assertEqual(view(desk), before)

    def test_edits(self):
        desk = Desk(Book([]))
        for line, told in (("name b", "ok"), ("name a", "ok"), ("list b a", "ok 0"), ("list", "ok 1"), ("list a", "ok 2"),
                           ("lose 1", "ok"), ("lose 1", "same"), ("restore 0", "same"), ("lose 2", "ok"), ("drop 0", "ok")):
            self.assertEqual(run_line(desk, line), told)
        self.assertEqual(view(desk), (("a", "b"), ((), ("a",)), (0, 1), 8))
        for line, told in (("restore 1", "ok"), ("restore 1", "same"), ("unname a", "ok"), ("show", "names b; list; list; lost 0"),
                           ("undo", "ok"), ("undo", "ok"), ("show", "names a b; list; list a; lost 0,1"), ("undo", "ok"),
                           ("show", "names a b; list a b; list; list a; lost 1,2"), ("list a b", "ok 3"), ("undo", "ok")):
            self.assertEqual(run_line(desk, line), told)
        for _ in range(7):
            self.assertEqual(run_line(desk, "undo"), "ok")
        self.assertEqual([run_line(desk, "undo"), run_line(desk, "undo"), run_line(desk, "show")], ["same", "same", "names"])

    def test_a_desk_that_its_methods_edited(self):
        desk = Desk(BOOK)
        desk.add_name("f")
        desk.lose(3)
        self.assertEqual([run_line(desk, "undo"), desk.lost], ["ok", ()])
        self.assertEqual([run_line(desk, "undo"), desk.book], ["ok", BOOK])
        self.assertEqual(run_line(desk, "undo"), "same")
        self.assertEqual([run_line(desk, "name f"), desk.undo(), desk.book], ["ok", True, BOOK])

    def test_parts(self):
        desk = Desk(Book([]))
        source = random.Random(2)
        for count in (4, 5, 6):
            for _ in range(15):
                one, two = source.sample(trees_on(tuple(LETTERS[:count])), 2)
                line = "part " + write_tree(one) + " " + write_tree(two)
                self.assertEqual(run_line(desk, line), write_parting(read_off(one, two)))
        big = "(" + ",".join(LETTERS[:12]) + ")"
        told = write_parting(read_off(caterpillar(12), read_tree(big)))
        self.assertEqual(run_line(desk, "part " + write_tree(caterpillar(12)) + " " + big), told)
        for line in ("part (a,b,c,d) (a,b,c,d)", "part (a,b,c,d) (a,b,c,e)", "part (a,b,(c,d)) (a,b,(c,d)", "part () ()"):
            self.assertEqual(run_line(desk, line), "refused")

    def test_judging(self):
        desk = desk_with(BOOK, (5,))
        text = write_paper(fatal_loss(desk.left))
        self.assertEqual(run_line(desk, "judge " + text), "wrong")
        self.assertEqual(run_line(desk, "judge " + write_paper(verdict(desk.left))), "right")
        desk.lose(0)
        self.assertEqual(run_line(desk, "judge " + write_paper(verdict(desk.left))), "right")
        self.assertEqual(run_line(desk, "judge " + write_paper(verdict(BOOK))), "wrong")
        for line in ("judge", "judge x", "judge tells 07", "judge rooted", "judge loss - a|b|c", "judge rooted B",
                     "judge fails a|b|c|d,e (a,b,c,d,e) (a,b,c,d,e", "judge judge tells"):
            self.assertEqual(run_line(desk, line), "refused")
        # Indexes are those of the left book.
        desk = desk_with(Book(list("abcd"), [[], list("abcd")]), (0,))
        self.assertEqual([run_line(desk, "verdict"), run_line(desk, "loss"), run_line(desk, "rooted a")],
                         ["tells 0", "loss 0 a|b|c|d", "rooted a 0"])
        self.assertEqual([run_line(desk, "judge tells 0"), run_line(desk, "judge tells 1")], ["right", "wrong"])
        desk.lose(1)
        self.assertEqual([run_line(desk, "loss"), run_line(desk, "judge loss - a|b|c|d")], ["loss - a|b|c|d", "right"])
        self.assertEqual(run_line(desk, "judge loss 0 a|b|c|d"), "wrong")
        self.assertEqual(run_line(desk, "judge confused - (a,b,(c,d)) (a,(b,d),c)"), "right")

    def test_examples(self):
        desk = desk_with(BOOK, (2, 5))
        self.assertEqual(run_line(desk, "common"), "a")
        self.assertEqual(run_line(desk, "rooted a"), "rooted a 0 1 3 2")
        self.assertEqual(run_line(desk, "rooted b"), "refused")
        self.assertEqual(run_line(desk, "rooted z"), "refused")
        self.assertEqual(run_line(desk, "times a|b|c|d,e"), "2")
        self.assertEqual(run_line(desk, "times c|e,d|b|a"), "2")
        self.assertEqual(run_line(desk, "cut ((d,e),c,(b,a))"), "(a,b,(c,d)) (a,b,(c,e)) (a,c,(d,e)) (a,b,(d,e))")
        self.assertEqual(run_line(desk, "fill"), "none")
        self.assertEqual(run_line(Desk(Book(list("abcde"), [list("abcd")])), "fill"), "a,b,c,e a,b,d,e a,c,d,e")
        self.assertEqual(run_line(Desk(Book(list("abcd"))), "rooted a"), "none")
        self.assertEqual(run_line(Desk(Book(list("abc"))), "loss"), "none")
        self.assertEqual([run_line(Desk(Book([])), line) for line in ("common", "cut ()", "verdict", "strength", "fill")],
                         ["-", "none", "tells", "none", "none"])

    def test_cuts_without_lists(self):
        desk = desk_with(Book(list("abc"), [["a", "b"]]), (0,))
        self.assertEqual(run_line(desk, "cut (a,b,c)"), "none")
        self.assertEqual(run_line(desk, "cut (a,b)"), "refused")
        self.assertEqual(run_line(desk, "cut (a,b,c"), "refused")
        desk.restore(0)
        self.assertEqual(run_line(desk, "cut (a,b,c)"), "(a,b)")
        self.assertEqual(run_line(desk, "cut (a,b,d)"), "refused")


class TestRefusals(unittest.TestCase):
    def assert_refused(self, desk, line):
        before = view(desk)
        self.assertEqual(run_line(desk, line), "refused", line)
        self.assertEqual(view(desk), before)

    def test_words_too_many_and_too_few(self):
        for word, sample in SAMPLES.items():
            desk = desk_with(BOOK, (0, 2))
            words = sample.split(" ")
            for spoilt in ([*words, "0"], [*words, "a"], [*words, "-"], words[:-1]):
                if spoilt and word not in ("list", "judge"):
                    self.assert_refused(desk, " ".join(spoilt))
            for spoilt in (sample + " ", " " + sample, sample.replace(" ", "  ", 1) + ("" if " " in sample else "  "),
                           word.upper(), word + "s", "x" + sample):
                self.assert_refused(desk, spoilt)
            self.assertNotEqual(run_line(desk, sample), "refused", sample)
        desk = Desk(BOOK)
        for many in range(5):
            for word, count in WORDS.items():
                if many != count:
                    self.assert_refused(desk, " ".join([word] + ["0"] * many))

    def test_no_lines(self):
        desk = desk_with(BOOK, (1,))
        for line in ("", " ", "  ", "-", "ok", "quit", "Name a", "names a", "name\ta", "list  a", "list a ", "list "):
            self.assert_refused(desk, line)

    def test_index_words(self):
        book = Book(["a"], [["a"]] * 12)
        for word in ("drop", "lose", "restore"):
            for index in ("00", "01", "07", "+1", "-1", "1.", "a", "1,2", "1a", "100", "0x", "12", "99", "-", "None", "True"):
                self.assert_refused(desk_with(book, range(12)), word + " " + index)
            for index in ("0", "9", "10", "11"):
                desk = desk_with(book, range(12) if word == "restore" else ())
                self.assertEqual(run_line(desk, word + " " + index), "ok")
        desk = Desk(BOOK)
        for pair in ("00 0", "0 00", "01 0", "0 -1", "13 0", "0 13", "99 0", "0 100", "a 0", "0 1,2", "- 0", "13 13"):
            self.assert_refused(desk, "bears " + pair)
        self.assertEqual([run_line(desk, "bears 12 0"), run_line(desk, "bears 0 12"), run_line(desk, "bears 0 0")],
                         ["no", "no", "yes"])

    def test_work_that_raises(self):
        full = Book(LETTERS[:6], [[]] * 12)
        for book, lines in (
                (full, ("name g", "name a", "name A", "name a_", "unname z", "unname", "list", "list a", "list z", "list a a",
                        "list A", "drop 12", "lose 12", "restore 12", "rooted z", "rooted a", "rooted A", "times a|b|c|d",
                        "times a|b|c|d,e,g", "times a|b|c|d,e,f,f", "times a|b|c", "times a||b|c", "cut (a,b)", "cut x",
                        "part () ()", "part (a,b) (a,c)", "judge tells 123", "times a,b,c,d,e,f")),
                (Book([]), ("unname a", "list a", "drop 0", "lose 0", "restore 0", "rooted a", "times a|b|c|d", "cut (a)"))):
            for line in lines:
                self.assert_refused(Desk(book), line)

    def test_a_refused_line_is_no_edit(self):
        desk = Desk(Book([]))
        answers = [run_line(desk, line) for line in ("name a", "name a", "list b", "drop 0", "lose 0", "undo", "undo")]
        self.assertEqual(answers, ["ok", "refused", "refused", "refused", "refused", "ok", "same"])


class TestRun(unittest.TestCase):
    def test_scripts(self):
        source = random.Random(3)
        lines = [*SAMPLES.values(), "name a", "name b", "name c", "name d", "name e", "list a b c d", "list a c d e", "undo",
                 "list", "lose 0", "restore 1", "judge tells", "", "x", "name f ", "strength", "show", "times a|b|c|d"]
        for _ in range(60):
            told = [source.choice(lines) for _ in range(source.randrange(1, 41))]
            # A script of one empty line is the empty text, which has no lines.
            if told == [""]:
                continue
            desk = Desk(Book([]))
            answers = tuple(run_line(desk, line) for line in told)
            self.assertEqual(run("\n".join(told)), answers)
            self.assertEqual(run(text="\n".join(told)), answers)
            self.assertEqual(len(answers), len(told))
            self.assertTrue(all(type(answer) is str for answer in answers))

    def test_examples(self):
        self.assertEqual(run("name b\nname a\nlist b a\nlist c\nshow\nstrength"),
                         ("ok", "ok", "ok 0", "refused", "names a b; list a b", "none"))
        text = "\n".join(["name a", "name b", "name c", "name d", "list d c b a", "verdict", "lose 0", "verdict", "show", "undo",
                          "common", "rooted d", "bears 0 0", "bears 1 0", "times d|c|b|a", "cut ((a,c),(d,b))"])
        self.assertEqual(run(text), ("ok", "ok", "ok", "ok", "ok 0", "tells 0", "ok",
                                     "fails a|b|c|d (a,b,(c,d)) (a,(b,d),c)", "names a b c d; list a b c d; lost 0", "ok",
                                     "a b c d", "rooted d 0", "yes", "no", "1", "(a,(b,d),c)"))

    def test_empty_texts_and_lines(self):
        self.assertEqual(run(""), ())
        self.assertEqual(run("\n"), ("refused", "refused"))
        self.assertEqual(run("name a\n"), ("ok", "refused"))
        self.assertEqual(run("name a\n\nname b"), ("ok", "refused", "ok"))
        self.assertEqual(run(" "), ("refused",))
        self.assertIs(type(run("")), tuple)

    def test_bounds(self):
        self.assertEqual(run("\n" * 39), ("refused",) * 40)
        self.assertEqual(raised(run, "\n" * 40), ("TooMany", 40))
        self.assertEqual(run("show\n" * 39 + "show"), ("names",) * 40)
        self.assertEqual(raised(run, "show\n" * 40), ("TooMany", 40))
        self.assertEqual(run("x" * 8000), ("refused",))
        self.assertEqual(raised(run, "x" * 8001), ("TooMany", 8000))
        self.assertEqual(raised(run, "\n" * 8001), ("TooMany", 8000))
        self.assertEqual(raised(run, "\n" * 8000), ("TooMany", 40))
        self.assertEqual(run_line(Desk(BOOK), "judge tells" + " 0" * 3994), "wrong")

    def test_scripts_do_not_influence_each_other(self):
        text = "name a\nlist a\nlose 0\nshow\nundo\nundo\nundo\nundo\nshow"
        self.assertEqual(run(text), run(text))
        self.assertEqual(run(text)[-2:], ("same", "names"))
        one, two = Desk(BOOK), Desk(BOOK)
        run_line(one, "unname a")
        self.assertEqual(view(two), view(Desk(BOOK)))
        self.assertEqual(BOOK.names, tuple("abcde"))


if __name__ == "__main__":
    unittest.main()
