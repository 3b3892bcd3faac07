"""Promises [20] to [22] and the interface of fourmet/treetext.py."""

import random
import unittest

from fourmet.treetext import is_told, read_tree, write_tree
from fourmet.trees import Tree
from helpers import LETTERS, THIRTEEN, TWELVE, caterpillar, every_tree, raised

SIGNS = LETTERS + "0123456789"


def grow(symbol):
    """The rows that a symbol of the grammar stands for."""
    return {
        "text": [("(", ")"), ("(", "name", ")"), ("group",)],
        "group": [("(", "branch", ",", "branch", "more", ")")],
        "more": [(), (",", "branch", "more")],
        "branch": [("name",), ("group",)],
        "name": [("letter", "tail7")],
        **{f"tail{left}": [(), ("sign", f"tail{left - 1}")] for left in range(1, 8)},
        "tail0": [()],
    }.get(symbol)


def opened(rows):
    """The rows with their first symbols grown until each begins with a sign or is empty."""
    found, due = set(), list(rows)
    while due:
        row = due.pop()
        grown = grow(row[0]) if row else None
        if grown is None:
            found.add(row)
        else:
            due += [told + row[1:] for told in grown]
    return found


def takes(symbol, sign):
    """Whether the symbol stands for this sign."""
    return sign in {"letter": LETTERS, "sign": SIGNS}.get(symbol, symbol)


def first_fault(text):
    """The `at` of the text by trying all ways to grow it from the grammar; None if it follows the grammar."""
    rows = opened([("text",)])
    for at, sign in enumerate(text):
        rows = opened({row[1:] for row in rows if row and takes(row[0], sign)})
        if not rows:
            return at
    return None if () in rows else len(text)


class TestWriting(unittest.TestCase):
    def test_few_names(self):
        self.assertEqual(write_tree(Tree([])), "()")
        self.assertEqual(write_tree(Tree(["a1"])), "(a1)")
        self.assertEqual(write_tree(Tree(["b", "a"])), "(a,b)")
        self.assertEqual(write_tree(Tree(["b", "c", "a"])), "(a,b,c)")
        self.assertEqual(write_tree(tree=Tree(["b", "a10", "a2"])), "(a10,a2,b)")
        self.assertIs(type(write_tree(Tree([]))), str)

    def test_examples(self):
        told = {
            (): "(a,b,c,d,e,f)",
            ("cd",): "(a,b,(c,d),e,f)",
            ("ab",): "(a,b,(c,d,e,f))",
            ("bcd", "bc"): "(a,((b,c),d),e,f)",
            ("cf", "cfd", "be"): "(a,(b,e),((c,f),d))",
            ("bc", "de"): "(a,(b,c),(d,e),f)",
        }
        for sides, text in told.items():
            self.assertEqual(write_tree(Tree(list("abcdef"), [list(side) for side in sides])), text)

    def test_twelve_names(self):
        self.assertEqual(write_tree(Tree(TWELVE)), "(a,b,c,d,e,f,g,h,i,j,k,l)")
        self.assertEqual(write_tree(caterpillar(12)), "(a,b,(c,(d,(e,(f,(g,(h,(i,(j,(k,l))))))))))")
        self.assertEqual(read_tree(write_tree(caterpillar(12))), caterpillar(12))

    def test_reading_gives_the_tree_back(self):
        seen = {}
        for count in range(7):
            for tree in every_tree(count):
                text = write_tree(tree)
                self.assertEqual(read_tree(text), tree)
                self.assertIs(is_told(text), True)
                self.assertNotIn(text, seen)
                seen[text] = tree

    def test_branches_stand_in_the_order_of_their_least_names(self):
        self.assertEqual(write_tree(read_tree("((h,(c,z)),((b,y),(k,d)),x)")), "(b,((((c,z),h),x),(d,k)),y)")
        self.assertEqual(write_tree(read_tree("(b,(z,y),(x,c),(w,(d,v)))")), "(b,(c,x),((d,v),w),(y,z))")


class TestReading(unittest.TestCase):
    def test_texts(self):
        self.assertEqual(read_tree("()"), Tree([]))
        self.assertEqual(read_tree("(a)"), Tree(["a"]))
        self.assertEqual(read_tree("(b,a)"), Tree(["a", "b"]))
        self.assertEqual(read_tree(text="((c,d),b,a)"), Tree(list("abcd"), [["c", "d"]]))
        self.assertEqual(read_tree("(abcdefgh,a2345678,(b,c0))"), Tree(["abcdefgh", "a2345678", "b", "c0"], [["b", "c0"]]))

    def test_an_outermost_group_with_two_branches(self):
        told = Tree(list("abcd"), [["c", "d"]])
        for text in ("((a,b),(c,d))", "(a,b,(c,d))", "(a,(b,(c,d)))", "((d,c),b,a)", "(((c,d),a),b)"):
            self.assertEqual(read_tree(text), told)
        self.assertEqual(read_tree("((a,b,c),(d,e))").splits, (("d", "e"),))
        self.assertEqual(read_tree("((a,d,c),(b,e),f)").splits, (("b", "e"), ("b", "e", "f")))

    def test_groups_with_fewer_than_two_names_outside_give_no_split(self):
        self.assertEqual(read_tree("(a,(b,c,d))"), Tree(list("abcd")))
        self.assertEqual(read_tree("((b,c,d),a)"), Tree(list("abcd")))
        self.assertEqual(read_tree("((a,b),c)"), Tree(list("abc")))
        self.assertEqual(read_tree("((c,b),a)"), Tree(list("abc")))
        self.assertEqual(read_tree("(a,((b,c),d))"), Tree(list("abcd"), [["b", "c"]]))

    def test_texts_that_are_not_told(self):
        for text in ("(b,a)", "((a,b),c)", "((a,b),(c,d))", "(a,(b,c))", "(a,(c,b),d)", "((b,c),a,d)", "(a,(b,c,d))",
                     "(a,b,(d,c))", "(b,a,(c,d))", "((c,d),a,b)", "(a,((c,d),b))", "(a1,a0)"):
            self.assertIsNone(raised(read_tree, text))
            self.assertIs(is_told(text), False)
        for text in ("(a,b,(c,d))", "(a,(b,c),d)", "(a0,a1)", "()", "(z)", "(a,b,c)"):
            self.assertIs(is_told(text=text), True)


class TestErrors(unittest.TestCase):
    def check(self, text, at):
        self.assertEqual(first_fault(text), at)
        self.assertEqual(raised(read_tree, text), ("BadText", at))
        self.assertIs(is_told(text), False)

    def test_examples(self):
        told = {"": 0, "a": 0, ")": 0, ",": 0, "(": 1, "()(": 2, "())": 2, "() ": 2, "(a": 2, "(a,": 3, "(a)": None,
                "((a,b))": 6, "((a,b)": 6, "(())": 2, "((a))": 3, "((a),b)": 3, "(a,)": 3, "(,a)": 1, "(a,,b)": 3,
                "(1)": 1, "(A)": 1, "(a b)": 2, " (a)": 0, "(a) ": 3, "(a)\n": 3, "\n": 0, "(a.b)": 2, "(a,b,(c,d)": 10,
                "(abcdefghi)": 9, "(abcdefgh": 9, "(abcdefgh)": None, "(a(b,c))": 2, "((a,b)c)": 6, "(a,b))": 5,
                "(a,(b,c),1)": 9, "(a,())": 4, "(a,(b))": 5, "(a,b)(": 5, "(a_)": 2, "(a,b),": 5, "((a,b)(c,d))": 6}
        for text, at in told.items():
            if at is None:
                self.assertEqual((raised(read_tree, text), first_fault(text)), (None, None))
            else:
                self.check(text, at)

    def test_every_cut_and_every_changed_sign(self):
        for text in ("()", "(abc)", "(a,b)", "((a,b),(c,d))", "(a,(b1,(c,d,e),f),abcdefgh)", "(a,(b,((c,d),e)),f)"):
            for end in range(len(text)):
                self.check(text[:end], end)
            for at in range(len(text) + 1):
                for sign in "(),a9A \n~":
                    self.check_changed(text[:at] + sign + text[at:])
                    self.check_changed(text[:at] + sign + text[at + 1:])

    def check_changed(self, text):
        at = first_fault(text)
        if at is None:
            self.assertIn((raised(read_tree, text) or ("fine",))[0], ("fine", "RepeatedName"))
        else:
            self.check(text, at)

    def test_scattered_texts(self):
        chance = random.Random(5)
        for _ in range(3000):
            text = "".join(chance.choice("(((,,)))abc1") for _ in range(chance.randrange(14)))
            self.check_changed("(" + text)
            self.check_changed(text)

    def test_lengths(self):
        self.assertEqual(raised(read_tree, "(" * 400), ("BadText", 400))
        self.assertEqual(raised(read_tree, "(" * 401), ("TooMany", 400))
        self.assertEqual(raised(read_tree, "x" * 400), ("BadText", 0))
        self.assertEqual(raised(read_tree, "x" * 401), ("TooMany", 400))
        self.assertEqual(raised(read_tree, "(a)" + " " * 398), ("TooMany", 400))
        self.assertEqual(raised(read_tree, "(" + "a," * 199 + "a"), ("BadText", 400))
        self.assertEqual(raised(read_tree, "(a" + ",a" * 198 + ")"), ("RepeatedName", "a"))
        deep = "(a," * 99 + "(b,c" + ")" * 99
        self.assertEqual(raised(read_tree, deep), ("BadText", 400))
        self.assertEqual(raised(read_tree, deep[3:]), ("RepeatedName", "a"))

    def test_a_longest_text(self):
        names = [LETTERS[at % 26] + LETTERS[at // 26] * 7 for at in range(44)]
        text = "(" + ",".join(names) + ")"
        self.assertEqual(len(text), 397)
        self.assertEqual(raised(read_tree, text), ("TooMany", 12))
        self.assertEqual(raised(read_tree, text[:-1] + ",zz)"), ("TooMany", 12))
        self.assertEqual(raised(read_tree, text[:-1] + ",zzz)"), ("TooMany", 400))

    def test_repeated_names_and_too_many(self):
        self.assertEqual(raised(read_tree, "(a,b,(c,b),a)"), ("RepeatedName", "b"))
        self.assertEqual(raised(read_tree, "((b,a),(a,b))"), ("RepeatedName", "a"))
        self.assertEqual(raised(read_tree, "(" + ",".join(THIRTEEN) + ")"), ("TooMany", 12))
        self.assertEqual(raised(read_tree, "(" + ",".join(THIRTEEN) + ",d)"), ("RepeatedName", "d"))
        self.assertEqual(raised(read_tree, "(" + ",".join(THIRTEEN) + ",d"), ("BadText", 28))
        self.assertIsNone(raised(read_tree, "(" + ",".join(TWELVE) + ")"))
        self.assertIs(is_told("(" + ",".join(THIRTEEN) + ")"), False)
        self.assertIs(is_told("(a,b,(c,b),a)"), False)

    def test_is_told_raises_nothing(self):
        for text in ("", "(" * 100000, "~" * 401, "(a,b" * 5000, "\n", "(a,a)", "()" * 9):
            self.assertIs(is_told(text), False)


if __name__ == "__main__":
    unittest.main()
