"""Promises [29], [30] and the interface of fourmet/twins.py."""

import itertools
import unittest

from fourmet.trees import Tree
from fourmet.twins import are_twins, end_groups, first_end_group, twin_groups
from helpers import LETTERS, TWELVE, caterpillar, every_tree, kinds, middles, raised

SIX = Tree(list("abcdef"), [["e", "f"], ["d", "e", "f"], ["b", "c"]])
TREES = [tree for count in range(7) for tree in every_tree(count)] + [Tree(TWELVE), caterpillar(12)]


class TestTwins(unittest.TestCase):
    def test_every_tree(self):
        for tree in TREES:
            for one, two in itertools.permutations(tree.names, 2):
                told = len(tree.names) >= 3 and tree.exchanged(one, two) == tree
                self.assertIs(are_twins(tree, one, two), told)
                self.assertIs(are_twins(two=two, one=one, tree=tree), told)

    def test_few_names(self):
        self.assertIs(are_twins(Tree(["a", "b"]), "a", "b"), False)
        self.assertIs(are_twins(Tree(["a", "b", "c"]), "c", "a"), True)
        self.assertEqual(twin_groups(Tree(["a", "b", "c"])), (("a", "b", "c"),))
        for count in range(3):
            self.assertEqual(twin_groups(Tree(list(LETTERS[:count]))), ())

    def test_errors(self):
        self.assertEqual(raised(are_twins, SIX, "z", "y"), ("UnknownName", "z"))
        self.assertEqual(raised(are_twins, SIX, "a", "y"), ("UnknownName", "y"))
        self.assertEqual(raised(are_twins, SIX, "z", "z"), ("UnknownName", "z"))
        self.assertEqual(raised(are_twins, SIX, "b", "b"), ("RepeatedName", "b"))
        self.assertEqual(raised(are_twins, Tree(["b"]), "b", "b"), ("RepeatedName", "b"))
        self.assertEqual(raised(are_twins, SIX, "z", None), ("BadName", None))
        self.assertEqual(raised(are_twins, SIX, False, "A"), ("BadName", False))


class TestGroups(unittest.TestCase):
    def groups(self, tree, ends):
        found = []
        for place in middles(tree):
            single = tuple(sorted(way[0] for way in place if len(way) == 1))
            if len(place) - len(single) == 1 if ends else len(single) >= 2:
                found.append(single)
        return tuple(sorted(found))

    def test_every_tree(self):
        for tree in TREES:
            self.assertEqual(twin_groups(tree), self.groups(tree, False))
            ends = self.groups(tree, True)
            self.assertEqual(end_groups(tree), ends)
            self.assertEqual(first_end_group(tree), ends[0] if ends else None)
            self.assertEqual(len(ends) >= 2, bool(tree))
            self.assertEqual(twin_groups(tree=tree), twin_groups(tree))
            self.assertEqual((end_groups(tree=tree), first_end_group(tree=tree)), (ends, first_end_group(tree)))

    def test_stars(self):
        for count in range(13):
            star = Tree(TWELVE[:count])
            self.assertEqual(end_groups(star), ())
            self.assertIsNone(first_end_group(star))
            self.assertEqual(twin_groups(star), (tuple(TWELVE[:count]),) if count >= 3 else ())

    def test_examples(self):
        self.assertEqual(twin_groups(SIX), (("b", "c"), ("e", "f")))
        self.assertEqual(end_groups(SIX), (("b", "c"), ("e", "f")))
        self.assertEqual(first_end_group(SIX), ("b", "c"))
        middle = Tree(list("abcdef"), [["a", "b"], ["e", "f"]])
        self.assertEqual(twin_groups(middle), (("a", "b"), ("c", "d"), ("e", "f")))
        self.assertEqual(end_groups(middle), (("a", "b"), ("e", "f")))
        self.assertEqual(end_groups(caterpillar(12)), (("a", "b"), ("k", "l")))
        self.assertEqual(kinds(end_groups(middle)), (tuple, ((tuple, (str, str)),) * 2))
        last = Tree(list("abcdefg"), [["a", "g"], ["b", "f"]])
        self.assertEqual(first_end_group(last), ("a", "g"))
        self.assertEqual(twin_groups(last), (("a", "g"), ("b", "f"), ("c", "d", "e")))

    def test_the_tree_stays(self):
        tree = Tree(SIX.names, SIX.splits)
        first = (twin_groups(tree), end_groups(tree), are_twins(tree, "b", "c"))
        self.assertEqual((twin_groups(tree), end_groups(tree), are_twins(tree, "b", "c")), first)
        self.assertEqual(tree, SIX)


if __name__ == "__main__":
    unittest.main()
