"""Promises [7], [13] to [16] and the interface of fourmet/trees.py."""

import itertools
import unittest

from fourmet.books import Book
from fourmet.trees import Tree, cross, free_splits, near_side, refines
from helpers import (LETTERS, THIRTEEN, TWELVE, caterpillar, every_tree, is_name_tuple, kinds, near_sides, raised,
                     sides_cross)

FIVE = Tree(["e", "d", "c", "b", "a"], [["b", "a"], ["e", "d"]])


def choices(names):
    """All subsets of the names, as tuples."""
    return [side for size in range(len(names) + 1) for side in itertools.combinations(names, size)]


class TestSides(unittest.TestCase):
    def test_near_side(self):
        for count in range(6):
            names = LETTERS[:count]
            for side in choices(names):
                told = tuple(name for name in names if name not in side) if "a" in side else side
                for given in (side, side[::-1], list(side)):
                    self.assertEqual(near_side(list(names)[::-1], given), told)
                self.assertTrue(is_name_tuple(near_side(side=side, names=tuple(names))))
        self.assertEqual(near_side([], []), ())
        self.assertEqual(near_side(["a10", "a2", "b"], ["a2"]), ("a2",))
        self.assertEqual(near_side(["a10", "a2", "b"], ["a10"]), ("a2", "b"))

    def test_near_side_errors(self):
        self.assertEqual(raised(near_side, ["a"], ["z", "a", "y"]), ("UnknownName", "y"))
        self.assertEqual(raised(near_side, [], ["a"]), ("UnknownName", "a"))
        self.assertEqual(raised(near_side, ["a", "a"], ["B"]), ("RepeatedName", "a"))
        self.assertEqual(raised(near_side, ["a"], ["z", "B"]), ("BadName", "B"))
        self.assertEqual(raised(near_side, ["a"], THIRTEEN), ("TooMany", 12))

    def test_cross(self):
        for count in range(5):
            names = tuple(LETTERS[:count])
            for one, two in itertools.product(choices(names), repeat=2):
                first, second = set(one), set(two)
                corners = [first & second, first - second, second - first, set(names) - first - second]
                self.assertIs(cross(names, one, two), all(corners))
                self.assertIs(cross(two=list(two[::-1]), one=one[::-1], names=names[::-1]), all(corners))

    def test_cross_errors(self):
        self.assertEqual(raised(cross, ["a", "b"], ["z", "y"], ["c"]), ("UnknownName", "y"))
        self.assertEqual(raised(cross, ["a", "b"], ["b"], ["z", "c"]), ("UnknownName", "c"))
        self.assertEqual(raised(cross, ["a", "b"], ["z"], ["c", "B"]), ("BadName", "B"))
        self.assertEqual(raised(cross, ["a", "b"], ["b", "b"], ["B"]), ("RepeatedName", "b"))
        self.assertEqual(raised(cross, ["A"], ["b", "b"], ["B"]), ("BadName", "A"))


class TestMaking(unittest.TestCase):
    def test_names_and_splits(self):
        self.assertEqual(FIVE.names, ("a", "b", "c", "d", "e"))
        self.assertEqual(FIVE.splits, (("c", "d", "e"), ("d", "e")))
        self.assertEqual(kinds(FIVE.splits), (tuple, ((tuple, (str,) * 3), (tuple, (str,) * 2))))
        self.assertEqual(Tree(names=("b", "a")).splits, ())
        self.assertEqual(Tree(splits=[["d", "c"]], names=["d", "c", "b", "a"]).splits, (("c", "d"),))

    def test_either_side_and_equal_sides(self):
        told = Tree(["a", "b", "c", "d"], [["c", "d"]])
        for splits in ([["a", "b"]], (("d", "c"), ["b", "a"]), [["c", "d"]] * 20):
            self.assertEqual(Tree(["a", "b", "c", "d"], splits), told)
            self.assertEqual(Tree(["a", "b", "c", "d"], splits).splits, (("c", "d"),))

    def test_few_names(self):
        for count in range(4):
            names = list(LETTERS[:count])
            tree = Tree(names)
            self.assertEqual((tree.names, tree.splits), (tuple(names), ()))
            self.assertEqual((tree.is_star, tree.is_full, len(tree), bool(tree)), (True, True, 0, False))
            for side in choices(names):
                self.assertEqual(raised(Tree, names, [side]), ("BadSplit", side))

    def test_sides_of_every_size(self):
        for count in (4, 5, 12):
            names = list(LETTERS[:count])
            for size in range(count + 1):
                for side in (tuple(names[:size]), tuple(names[count - size:])):
                    error = None if 2 <= size <= count - 2 else ("BadSplit", side)
                    self.assertEqual(raised(Tree, names, [side[::-1]]), error)

    def test_every_pair_of_splits(self):
        names = "abcde"
        for one, two in itertools.product(near_sides(names), repeat=2):
            error = ("Clash", min(one, two), max(one, two)) if sides_cross(one, two) else None
            self.assertEqual(raised(Tree, list(names), [one, two]), error)
            far = [name for name in names if name not in one]
            self.assertEqual(raised(Tree, list(names), [far, two]), error)

    def test_the_least_clash_counts(self):
        names = list("abcdef")
        splits = [["e", "f"], ["d", "e"], ["c", "d"], ["b", "c", "d"]]
        for given in itertools.permutations(splits):
            self.assertEqual(raised(Tree, names, list(given)), ("Clash", ("b", "c", "d"), ("d", "e")))

    def test_bounds(self):
        self.assertEqual(len(caterpillar(12)), 9)
        self.assertEqual(raised(Tree, THIRTEEN), ("TooMany", 12))
        self.assertEqual(raised(Tree, TWELVE, [THIRTEEN]), ("TooMany", 12))
        self.assertEqual(raised(Tree, ["a"], [["b"]] * 13), ("UnknownName", "b"))

    def test_step_one(self):
        for value in ("A", "", 3, True, False, None):
            self.assertEqual(raised(Tree, ["a", value]), ("BadName", value))
            self.assertEqual(raised(Tree, ["a"], [["z"], ["a", value]]), ("BadName", value))
        self.assertEqual(raised(Tree, ["b", "a", "b"], [["A"]]), ("RepeatedName", "b"))
        self.assertEqual(raised(Tree, ["a"], [["b", "b"], ["A"]]), ("RepeatedName", "b"))

    def test_order_of_step_two(self):
        names = ["a", "b", "c", "d"]
        crossing = [["a", "b"], ["b", "c"]]
        self.assertEqual(raised(Tree, names, crossing), ("Clash", ("b", "c"), ("c", "d")))
        self.assertEqual(raised(Tree, names, crossing + [["d"], ["a"]]), ("BadSplit", ("d",)))
        self.assertEqual(raised(Tree, names, crossing + [["d", "a", "c"], []]), ("BadSplit", ("a", "c", "d")))
        self.assertEqual(raised(Tree, names, crossing + [["d"], ["z", "y"], ["x"]]), ("UnknownName", "y"))
        self.assertEqual(raised(Tree, names, crossing + [["d"], ["z"], ["x", "x"]]), ("RepeatedName", "x"))

    def test_later_changes_have_no_effect(self):
        names, side = ["d", "c", "b", "a"], ["d", "c"]
        splits = [side]
        tree = Tree(names, splits)
        self.assertEqual((names, side, splits), (["d", "c", "b", "a"], ["d", "c"], [["d", "c"]]))
        names.pop()
        side.append("b")
        splits.clear()
        self.assertEqual((tree.names, tree.splits), (("a", "b", "c", "d"), (("c", "d"),)))

    def test_how_many_trees_there_are(self):
        self.assertEqual([len(every_tree(count)) for count in range(7)], [1, 1, 1, 1, 4, 26, 236])


class TestLooking(unittest.TestCase):
    def test_star_and_full(self):
        for count in range(7):
            for tree in every_tree(count):
                self.assertIs(tree.is_star, len(tree.splits) == 0)
                self.assertIs(tree.is_full, count < 3 or len(tree.splits) == count - 3)
        self.assertIs(caterpillar(12).is_full, True)
        self.assertIs(Tree(TWELVE).is_full, False)

    def test_length_truth_and_iteration(self):
        for tree in every_tree(5):
            self.assertEqual(len(tree), len(tree.splits))
            self.assertIs(bool(tree), len(tree.splits) > 0)
            self.assertEqual(list(tree), list(tree.splits))
            self.assertEqual(list(tree.splits), sorted(tree.splits))

    def test_in(self):
        for value in [("c", "d", "e"), ("d", "e")]:
            self.assertIs(value in FIVE, True)
            self.assertIs(list(value) in FIVE, False)
        for value in [("a", "b"), ("e", "d"), ("a", "b", "c"), (), ("c",), ("z",)]:
            self.assertIs(value in FIVE, False)

    def test_equality(self):
        for one, two in itertools.product(every_tree(5), repeat=2):
            self.assertIs(one == two, one.splits == two.splits)
            self.assertIs(one != two, one.splits != two.splits)
        others = [Tree(list("abcdf"), [["a", "b"], ["f", "d"]]), Tree(list("abcd"), [["c", "d"]]),
                  Book(["a"]), (FIVE.names, FIVE.splits), FIVE.splits, 2, "a", None]
        for other in others:
            self.assertIs(FIVE == other, False)
            self.assertIs(FIVE != other, True)
        self.assertIs(Tree(["a"]) == Tree(["b"]), False)
        self.assertIs(Tree([]) == Book([]), False)
        self.assertIs(Tree([]) == (), False)
        self.assertIs(Tree([]) == Tree(()), True)

    def test_and(self):
        for one, two in itertools.product(every_tree(5), repeat=2):
            both = one & two
            self.assertEqual(both.names, one.names)
            self.assertEqual(both.splits, tuple(sorted(set(one.splits) & set(two.splits))))
        self.assertEqual(raised(lambda: FIVE & Tree(["a", "b", "c", "d"])), ("UnlikeNames",))
        self.assertEqual(raised(lambda: Tree(["a"]) & Tree(["b"])), ("UnlikeNames",))

    def test_refines(self):
        for one, two in itertools.product(every_tree(5), repeat=2):
            self.assertIs(refines(one, two), set(two.splits) <= set(one.splits))
            self.assertIs(refines(two=two, one=one), set(two.splits) <= set(one.splits))
        self.assertEqual(raised(refines, FIVE, Tree([])), ("UnlikeNames",))
        self.assertEqual(raised(refines, Tree(["a"]), Tree(["b"])), ("UnlikeNames",))


class TestRenaming(unittest.TestCase):
    def moved(self, tree, table):
        return Tree([table.get(name, name) for name in tree.names],
                    [[table.get(name, name) for name in side] for side in tree.splits])

    def test_renamed(self):
        for tree in every_tree(5):
            for old in tree.names:
                for new in ("z", "a0", "b5", old):
                    self.assertEqual(tree.renamed(old, new), self.moved(tree, {old: new}))
        self.assertEqual(FIVE.renamed(new="z", old="b").splits, (("c", "d", "e"), ("d", "e")))
        self.assertEqual(FIVE.renamed(new="z", old="a").names, ("b", "c", "d", "e", "z"))
        self.assertEqual(Tree(list("abcde"), [["a", "b"]]).renamed("a", "d1").splits, (("c", "d", "e"),))
        self.assertEqual(FIVE.splits, (("c", "d", "e"), ("d", "e")))

    def test_renamed_errors(self):
        self.assertEqual(raised(FIVE.renamed, "z", "a"), ("UnknownName", "z"))
        self.assertEqual(raised(FIVE.renamed, "z", "z"), ("UnknownName", "z"))
        self.assertEqual(raised(FIVE.renamed, "a", "b"), ("RepeatedName", "b"))
        self.assertEqual(raised(FIVE.renamed, "Z", "B"), ("BadName", "Z"))
        self.assertEqual(raised(FIVE.renamed, "z", True), ("BadName", True))
        self.assertEqual(raised(Tree([]).renamed, "a", "b"), ("UnknownName", "a"))

    def test_exchanged(self):
        for tree in every_tree(5):
            for one, two in itertools.product(tree.names, repeat=2):
                self.assertEqual(tree.exchanged(one, two), self.moved(tree, {one: two, two: one}))
        self.assertEqual(FIVE.exchanged(two="e", one="a").splits, (("b", "c", "e"), ("b", "e")))

    def test_exchanged_errors(self):
        self.assertEqual(raised(FIVE.exchanged, "z", "y"), ("UnknownName", "z"))
        self.assertEqual(raised(FIVE.exchanged, "a", "y"), ("UnknownName", "y"))
        self.assertEqual(raised(FIVE.exchanged, "z", "z"), ("UnknownName", "z"))
        self.assertEqual(raised(FIVE.exchanged, "z", None), ("BadName", None))
        self.assertEqual(raised(FIVE.exchanged, 1, None), ("BadName", 1))


class TestSplitting(unittest.TestCase):
    def test_with_split(self):
        for tree in every_tree(5):
            for side in choices(tree.names):
                for given in (side, list(side[::-1])):
                    self.check_with_split(tree, side, given)
        self.assertEqual(Tree(["a", "b", "c", "d"]).with_split(side=["a", "b"]).splits, (("c", "d"),))

    def check_with_split(self, tree, side, given):
        if not 2 <= len(side) <= len(tree.names) - 2:
            self.assertEqual(raised(tree.with_split, given), ("BadSplit", side))
            return
        near = near_side(tree.names, side)
        clashes = sorted(tuple(sorted([near, other])) for other in tree.splits if sides_cross(near, other))
        if clashes:
            self.assertEqual(raised(tree.with_split, given), ("Clash", *clashes[0]))
        else:
            self.assertEqual(tree.with_split(given).splits, tuple(sorted(set(tree.splits) | {near})))

    def test_without_split(self):
        for tree in every_tree(5):
            for side in choices(tree.names):
                near = near_side(tree.names, side)
                for given in (side, list(side[::-1])):
                    if near in tree.splits:
                        told = tuple(other for other in tree.splits if other != near)
                        self.assertEqual(tree.without_split(given).splits, told)
                    else:
                        self.assertEqual(raised(tree.without_split, given), ("BadSplit", side))
        self.assertEqual(FIVE.without_split(side=["b", "a"]).splits, (("d", "e"),))

    def test_errors(self):
        for call in (FIVE.with_split, FIVE.without_split):
            self.assertEqual(raised(call, ["z", "y"]), ("UnknownName", "y"))
            self.assertEqual(raised(call, ["z", "z"]), ("RepeatedName", "z"))
            self.assertEqual(raised(call, ["z", None]), ("BadName", None))
            self.assertEqual(raised(call, THIRTEEN), ("TooMany", 12))
            self.assertEqual(raised(call, []), ("BadSplit", ()))
            self.assertEqual(raised(call, list("edcba")), ("BadSplit", tuple("abcde")))
        self.assertEqual(raised(Tree([]).without_split, []), ("BadSplit", ()))
        self.assertEqual(raised(Tree([]).with_split, []), ("BadSplit", ()))
        self.assertEqual(FIVE.splits, (("c", "d", "e"), ("d", "e")))

    def test_free_splits(self):
        for count in range(7):
            for tree in every_tree(count):
                told = tuple(side for side in near_sides(tree.names) if side not in tree.splits
                             and not any(sides_cross(side, other) for other in tree.splits))
                self.assertEqual(free_splits(tree), told)
                self.assertEqual(free_splits(tree=tree) == (), tree.is_full)

    def test_free_splits_bound(self):
        self.assertEqual(len(free_splits(Tree(TWELVE[:7]))), 2 ** 6 - 1 - 6 - 1)
        self.assertEqual(list(free_splits(Tree(TWELVE[:7]))), sorted(free_splits(Tree(TWELVE[:7]))))
        self.assertEqual(free_splits(caterpillar(7)), ())
        self.assertEqual(raised(free_splits, Tree(TWELVE[:8])), ("TooMany", 7))
        self.assertEqual(raised(free_splits, caterpillar(12)), ("TooMany", 7))


class TestNeverChanging(unittest.TestCase):
    def test_properties_cannot_be_set(self):
        for word in ("names", "splits", "is_star", "is_full"):
            with self.assertRaises(AttributeError):
                setattr(FIVE, word, ())
        self.assertEqual(FIVE, Tree(list("abcde"), [["a", "b"], ["d", "e"]]))


if __name__ == "__main__":
    unittest.main()
