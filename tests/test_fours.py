"""Promises [26] to [28] and the interface of fourmet/fours.py."""

import itertools
import unittest

from fourmet.fours import from_entries, from_fours, rooted_entries, rooted_pair, say, told_fours
from fourmet.trees import Tree
from helpers import LETTERS, THIRTEEN, TWELVE, caterpillar, every_tree, kinds, raised, statement

FOUR = Tree(["a", "b", "c", "d"], [["c", "d"]])
SIX = Tree(list("abcdef"), [["e", "f"], ["d", "e", "f"], ["b", "c"]])
TREES = [tree for count in range(7) for tree in every_tree(count)] + [Tree(TWELVE), caterpillar(12)]


def fours(names):
    return list(itertools.combinations(names, 4))


def pairings(four):
    """None, and the three statements about a four."""
    a, b, c, d = four
    return [None, ((a, b), (c, d)), ((a, c), (b, d)), ((a, d), (b, c))]


def turns(told):
    """The ways to write one statement, as tuples and as lists."""
    for first, second in itertools.permutations(told):
        for one, two in itertools.product(itertools.permutations(first), itertools.permutations(second)):
            yield (one, two)
            yield [list(one), list(two)]


def entries_of(tree, root):
    """The entries of a tree, from what it says."""
    found = []
    for three in itertools.combinations([name for name in tree.names if name != root], 3):
        told = statement(tree, tuple(sorted(three + (root,))))
        pair = None if told is None else [pair for pair in told if root not in pair][0]
        found.append((three, pair))
    return tuple(found)


class TestSaying(unittest.TestCase):
    def test_every_tree(self):
        for tree in TREES:
            told = [statement(tree, four) for four in fours(tree.names)]
            self.assertEqual(told_fours(tree), tuple(said for said in told if said is not None))
            self.assertEqual(told_fours(tree=tree), told_fours(tree))
        for tree in every_tree(6)[::5] + every_tree(4):
            for names in itertools.permutations(tree.names, 4):
                self.assertEqual(say(tree, names), statement(tree, tuple(sorted(names))))
                self.assertEqual(say(names=list(names), tree=tree), say(tree, names))

    def test_examples(self):
        self.assertEqual(say(FOUR, ["d", "b", "c", "a"]), (("a", "b"), ("c", "d")))
        self.assertIsNone(say(Tree(list("abcd")), list("abcd")))
        self.assertEqual(say(SIX, list("bdce")), (("b", "c"), ("d", "e")))
        self.assertEqual(say(SIX, list("fbea")), (("a", "b"), ("e", "f")))
        self.assertEqual(told_fours(FOUR), ((("a", "b"), ("c", "d")),))
        self.assertEqual(kinds(told_fours(FOUR)), (tuple, ((tuple, ((tuple, (str, str)),) * 2),)))
        self.assertEqual(told_fours(Tree(TWELVE)), ())
        self.assertEqual(len(told_fours(caterpillar(12))), 495)
        for count in range(4):
            self.assertEqual(told_fours(Tree(list(LETTERS[:count]))), ())

    def test_the_order_is_that_of_the_fours(self):
        tree = Tree(list("abcde"), [["a", "d"], ["b", "c"]])
        told = told_fours(tree)
        self.assertEqual([tuple(sorted(one + two)) for one, two in told], fours("abcde"))
        self.assertNotEqual(list(told), sorted(told))

    def test_errors(self):
        for count in (0, 1, 3, 5, 12):
            self.assertEqual(raised(say, SIX, THIRTEEN[:count]), ("WrongCount", count))
        self.assertEqual(raised(say, SIX, ["z", "y", "a", "b"]), ("UnknownName", "y"))
        self.assertEqual(raised(say, SIX, ["z", "y", "a", "B"]), ("BadName", "B"))
        self.assertEqual(raised(say, SIX, ["z", "y", "a", "a"]), ("RepeatedName", "a"))
        self.assertEqual(raised(say, SIX, ["z", "y", "x"]), ("WrongCount", 3))
        self.assertEqual(raised(say, SIX, THIRTEEN), ("TooMany", 12))


class TestFromFours(unittest.TestCase):
    def test_every_tree_comes_back(self):
        for tree in TREES:
            self.assertEqual(from_fours(tree.names, told_fours(tree)), tree)
            self.assertEqual(from_fours(statements=list(told_fours(tree)[::-1]), names=list(tree.names[::-1])), tree)

    def test_every_way_to_write_a_statement(self):
        told = told_fours(FOUR)[0]
        for turned in turns(told):
            self.assertEqual(from_fours(list("abcd"), [turned]), FOUR)
            self.assertEqual(from_fours(list("abcd"), (turned, told, turned)), FOUR)
        five = Tree(list("abcde"), [["d", "e"]])
        for turned in turns(told_fours(five)[1]):
            self.assertEqual(from_fours(list("abcde"), [told_fours(five)[2], turned, told_fours(five)[0]]), five)

    def test_all_sets_of_statements_on_five_names(self):
        good = {tuple(statement(tree, four) for four in fours("abcde")): tree for tree in every_tree(5)}
        found = 0
        for told in itertools.product(*[pairings(four) for four in fours("abcde")]):
            given = [said for said in told if said is not None]
            if told in good:
                self.assertEqual(from_fours(list("abcde"), given), good[told])
                found += 1
            else:
                self.assertEqual(raised(from_fours, list("abcde"), given), ("NoTree",))
        self.assertEqual(found, 26)

    def test_a_statement_missing_or_changed_or_twice_about_one_four(self):
        for tree in every_tree(6)[::13] + [caterpillar(7)]:
            told = list(told_fours(tree))
            for at, said in enumerate(told):
                self.assert_no_tree_or_another(tree, told[:at] + told[at + 1:])
                for other in pairings(tuple(sorted(said[0] + said[1])))[1:]:
                    if other != said:
                        self.assert_no_tree_or_another(tree, told[:at] + [other] + told[at + 1:])
                        self.assertEqual(raised(from_fours, tree.names, told + [other]), ("NoTree",))
                        self.assertEqual(raised(from_fours, tree.names, [other] + told), ("NoTree",))

    def assert_no_tree_or_another(self, tree, told):
        if raised(from_fours, tree.names, told) is None:
            found = from_fours(tree.names, told)
            self.assertNotEqual(found, tree)
            self.assertEqual(sorted(told_fours(found)), sorted(told))
        else:
            self.assertEqual(raised(from_fours, tree.names, told), ("NoTree",))

    def test_few_names(self):
        for count in range(6):
            names = list(LETTERS[:count])
            self.assertEqual(from_fours(names, []), Tree(names))
            self.assertEqual(from_fours(tuple(names), ()), Tree(names))
            if count < 4:
                self.assertEqual(raised(from_fours, names, told_fours(FOUR)), ("UnknownName", LETTERS[count]))

    def test_errors(self):
        names = list("abcd")
        good = [["a", "b"], ["c", "d"]]
        self.assertEqual(raised(from_fours, names, [good, [["z", "a"], ["y", "b"]], [["a", "b"], ["c", "e"]]]),
                         ("UnknownName", "y"))
        self.assertEqual(raised(from_fours, names, [[["a", "c"], ["b", "d"]], good, [["a", "b"], ["c", "e"]]]),
                         ("UnknownName", "e"))
        self.assertEqual(raised(from_fours, names, [[["z", "a"], ["y", "b"]], [["a", "a"], ["b", "c"]]]),
                         ("RepeatedName", "a"))
        self.assertEqual(raised(from_fours, names, [[["a", "b"], ["c", "a"]], [["B", "a"], ["b", "c"]]]),
                         ("RepeatedName", "a"))
        self.assertEqual(raised(from_fours, names, [[["a", "a"], ["c", None]]]), ("BadName", None))
        self.assertEqual(raised(from_fours, names, [[["a", True], ["C", "d"]]]), ("BadName", True))
        self.assertEqual(raised(from_fours, names, [[["a", "b"], ["b", "a"]]]), ("RepeatedName", "b"))
        self.assertEqual(raised(from_fours, ["A"], [[["a", "a"], ["b", "c"]]]), ("BadName", "A"))
        self.assertEqual(raised(from_fours, ["b", "b"], [[["A", "a"], ["b", "c"]]]), ("RepeatedName", "b"))
        self.assertEqual(raised(from_fours, THIRTEEN, [[["A", "a"], ["b", "c"]]]), ("TooMany", 12))

    def test_arguments_stay(self):
        names, told = ["d", "c", "b", "a"], [[["d", "c"], ["b", "a"]]]
        from_fours(names, told)
        self.assertEqual((names, told), (["d", "c", "b", "a"], [[["d", "c"], ["b", "a"]]]))


class TestRootedPairs(unittest.TestCase):
    def test_every_tree(self):
        for tree in TREES:
            for root in tree.names:
                told = entries_of(tree, root)
                self.assertEqual(rooted_entries(tree, root), told)
                self.assertEqual(rooted_entries(root=root, tree=tree), told)
        for tree in every_tree(5):
            for root in tree.names:
                for three, pair in entries_of(tree, root):
                    for names in itertools.permutations(three):
                        self.assertEqual(rooted_pair(tree, root, names), pair)
                        self.assertEqual(rooted_pair(names=list(names), root=root, tree=tree), pair)

    def test_examples(self):
        self.assertEqual(rooted_pair(FOUR, "a", ["d", "c", "b"]), ("c", "d"))
        self.assertEqual(rooted_pair(FOUR, "d", ["c", "b", "a"]), ("a", "b"))
        self.assertIsNone(rooted_pair(Tree(list("abcd")), "b", ["a", "c", "d"]))
        self.assertEqual(rooted_entries(FOUR, "c"), ((("a", "b", "d"), ("a", "b")),))
        self.assertEqual(rooted_entries(Tree(list("abcd")), "c"), ((("a", "b", "d"), None),))
        for count in (1, 2, 3):
            self.assertEqual(rooted_entries(Tree(list("abc")[:count]), "a"), ())

    def test_errors(self):
        self.assertEqual(raised(rooted_pair, SIX, "z", ["y", "a", "b"]), ("UnknownName", "z"))
        self.assertEqual(raised(rooted_pair, SIX, "z", ["z", "y", "b"]), ("UnknownName", "z"))
        self.assertEqual(raised(rooted_pair, SIX, "a", ["z", "y", "a"]), ("UnknownName", "y"))
        self.assertEqual(raised(rooted_pair, SIX, "a", ["c", "b", "a"]), ("RepeatedName", "a"))
        self.assertEqual(raised(rooted_pair, SIX, "A", ["B", "y", "a"]), ("BadName", "A"))
        self.assertEqual(raised(rooted_pair, SIX, "z", ["z", "y", "B"]), ("BadName", "B"))
        for count in (0, 2, 4):
            self.assertEqual(raised(rooted_pair, SIX, "z", THIRTEEN[:count]), ("WrongCount", count))
        self.assertEqual(raised(rooted_entries, SIX, "z"), ("UnknownName", "z"))
        self.assertEqual(raised(rooted_entries, Tree([]), "a"), ("UnknownName", "a"))
        for value in ("A", "", True, None, 5):
            self.assertEqual(raised(rooted_entries, SIX, value), ("BadName", value))


class TestFromEntries(unittest.TestCase):
    def test_every_tree_comes_back(self):
        for tree in TREES:
            for root in tree.names:
                told = rooted_entries(tree, root)
                self.assertEqual(from_entries(tree.names, root, told), tree)
        told = [[list(three[::-1]), pair and list(pair[::-1])] for three, pair in rooted_entries(SIX, "d")]
        self.assertEqual(from_entries(entries=told[::-1] + told[:3], root="d", names=list("fedcba")), SIX)

    def test_all_sets_of_entries_on_five_names(self):
        names = list("abcde")
        for root in names:
            threes = list(itertools.combinations([name for name in names if name != root], 3))
            good = {rooted_entries(tree, root): tree for tree in every_tree(5)}
            self.assertEqual(len(good), 26)
            for pairs in itertools.product(*[(None, three[:2], three[::2], three[1:]) for three in threes]):
                told = tuple(zip(threes, pairs))
                if told in good:
                    self.assertEqual(from_entries(names, root, told), good[told])
                else:
                    self.assertEqual(raised(from_entries, names, root, told), ("NoTree",))

    def test_faulty_entries(self):
        names = list("abcd")
        good = (("b", "c", "d"), ("c", "d"))
        self.assertEqual(from_entries(names, "a", [good, (["d", "c", "b"], ["d", "c"]), good]), FOUR)
        faulty = [(("b", "c", "d"), None), (("b", "c", "d"), ("b", "c")), (("b", "c", "e"), ("b", "c")),
                  (("a", "b", "c"), ("b", "c")), (("a", "b", "c"), None), (("x", "y", "z"), None)]
        for entry in faulty:
            self.assertEqual(raised(from_entries, names, "a", [good, entry]), ("NoTree",))
            self.assertEqual(raised(from_entries, names, "a", [entry, good]), ("NoTree",))
        for pair in (("a", "b"), ("a", "d"), ("b", "e"), ("y", "z")):
            self.assertEqual(raised(from_entries, names, "a", [(("b", "c", "d"), pair)]), ("NoTree",))
        self.assertEqual(raised(from_entries, names, "a", []), ("NoTree",))
        self.assertEqual(raised(from_entries, names, "a", [(("b", "c", "e"), None)]), ("NoTree",))
        self.assertEqual(raised(from_entries, names, "a", [(("a", "c", "d"), ("c", "d"))]), ("NoTree",))

    def test_missing_and_changed_entries(self):
        for tree in every_tree(6)[::13]:
            told = list(rooted_entries(tree, "c"))
            for at, (three, pair) in enumerate(told):
                self.assertEqual(raised(from_entries, tree.names, "c", told[:at] + told[at + 1:]), ("NoTree",))
                for other in (None, three[:2], three[::2], three[1:]):
                    if other != pair:
                        self.assertEqual(raised(from_entries, tree.names, "c", told + [(three, other)]), ("NoTree",))
                        self.assertEqual(raised(from_entries, tree.names, "c", [(three, other)] + told), ("NoTree",))

    def test_few_names(self):
        for count in (1, 2, 3):
            names = list("abc")[:count]
            for root in names:
                self.assertEqual(from_entries(names, root, []), Tree(names))
                self.assertEqual(raised(from_entries, names, root, [(("a", "b", "c"), None)]), ("NoTree",))
        self.assertEqual(raised(from_entries, [], "a", []), ("UnknownName", "a"))

    def test_errors(self):
        names = list("abcd")
        self.assertEqual(raised(from_entries, names, "z", [(("y", "b", "c"), None)]), ("UnknownName", "z"))
        twice = [(("b", "c", "d"), None), (("b", "c", "d"), ("b", "c"))]
        self.assertEqual(raised(from_entries, names, "z", twice), ("UnknownName", "z"))
        crossing = [(("a", "b", "c"), ("a", "b")), (("b", "c", "d"), ("b", "c")), (("c", "d", "e"), ("c", "d"))]
        self.assertEqual(raised(from_entries, list("abcdef"), "f", crossing), ("NoTree",))
        self.assertEqual(raised(from_entries, list("abcdef"), "z", crossing), ("UnknownName", "z"))
        self.assertEqual(raised(from_entries, names, "z", [(("b", "c"), None)]), ("WrongCount", 2))
        self.assertEqual(raised(from_entries, names, "z", [(("b", "c", "d"), ("b",))]), ("WrongCount", 1))
        self.assertEqual(raised(from_entries, names, "a", [(("b", "c", "d"), ())]), ("WrongCount", 0))
        self.assertEqual(raised(from_entries, names, "a", [(("b", "c", "d"), ("b", "c", "d"))]), ("WrongCount", 3))
        self.assertEqual(raised(from_entries, names, "a", [(("b", "c", "d", "e"), ("B",))]), ("WrongCount", 4))
        self.assertEqual(raised(from_entries, names, "a", [(("b", "c", "d"), ("B",)), (("b", "b"), None)]),
                         ("BadName", "B"))
        self.assertEqual(raised(from_entries, names, "a", [(("b", "b", "d"), ("B",)), (("C", "b"), None)]),
                         ("RepeatedName", "b"))
        self.assertEqual(raised(from_entries, names, "A", [(("B", "b", "d"), None)]), ("BadName", "A"))
        self.assertEqual(raised(from_entries, ["a", "a"], "A", []), ("RepeatedName", "a"))
        self.assertEqual(raised(from_entries, THIRTEEN, "A", []), ("TooMany", 12))
        for value in ("", True, False, 3):
            self.assertEqual(raised(from_entries, names, value, []), ("BadName", value))
            self.assertEqual(raised(from_entries, names, "a", [(("b", "c", value), None)]), ("BadName", value))
            self.assertEqual(raised(from_entries, names, "a", [(("b", "c", "d"), ("b", value))]), ("BadName", value))

    def test_arguments_stay(self):
        names, told = ["d", "c", "b", "a"], [[["d", "c", "b"], ["d", "c"]]]
        self.assertEqual(from_entries(names, "a", told), FOUR)
        self.assertEqual((names, told), (["d", "c", "b", "a"], [[["d", "c", "b"], ["d", "c"]]]))


if __name__ == "__main__":
    unittest.main()
