"""Promises [30] to [32] and the interface of fourmet/attach.py."""

import functools
import itertools
import unittest

from fourmet.attach import all_trees, count_trees, hang, hang_beside, hang_pair, spot_of, spots
from fourmet.cutdown import strike
from fourmet.trees import Tree
from helpers import LETTERS, THIRTEEN, TWELVE, caterpillar, every_tree, kinds, middles, raised

FOUR = Tree(["a", "b", "c", "d"], [["c", "d"]])
ODD = Tree(TWELVE[:11], [["b", "c", "d"], ["c", "d"], ["f", "g"], ["e", "f", "g", "h"]])
BIG = [Tree(TWELVE[:11]), caterpillar(11), ODD]
FULL = [Tree(TWELVE), caterpillar(12), Tree(TWELVE, [["b", "c", "d"], ["k", "l"]])]


def ends_of(tree):
    """The near sides of the edges of a tree with two names or more."""
    names = tree.names
    return sorted(set(tree.splits) | {(name,) for name in names[1:]} | {names[1:]})


def spots_of(tree):
    """The spots of a tree, by the document's words."""
    if len(tree.names) < 2:
        return [("start", tree.names)]
    return sorted([("tie", side) for side in ends_of(tree)] + [("place", place) for place in middles(tree)])


def two_sides(tree):
    """Both sides of each split of a tree, as sets."""
    return [(set(side), set(tree.names) - set(side)) for side in tree.splits]


def with_sides(tree, new, sides):
    """The tree with a further name that is made of such of the sides as divide its names."""
    names = set(tree.names) | {new}
    return Tree(sorted(names), [sorted(side) for side in sides if len(side) >= 2 and len(names - side) >= 2])


def hung_by_hand(tree, new, spot):
    """The tree with a new name hung at a spot: in each split the name comes to the side that the spot is in.

    This looks at neither the first name nor at near sides: one side of every other split lies inside one of the ways
    at the spot, so the spot is in the other one.
    """
    word, held = spot
    if word == "start":
        return Tree(sorted(tree.names + (new,)))
    ways = [set(held), set(tree.names) - set(held)] if word == "tie" else [set(way) for way in held]
    sides = []
    for one, two in two_sides(tree):
        if word == "place" or one not in ways:
            inside = any(one <= way for way in ways)
            sides.append(two | {new} if inside else one | {new})
    if word == "tie":
        sides += [ways[0], ways[1]]
    return with_sides(tree, new, sides)


def beside_by_hand(tree, name, new):
    """The sides of all splits, the new name on the side of the other one."""
    return [one | {new} if name in one else two | {new} for one, two in two_sides(tree)]


class TestSpots(unittest.TestCase):
    def test_every_tree(self):
        for tree in [tree for count in range(7) for tree in every_tree(count)] + BIG + FULL:
            found = spots(tree)
            self.assertEqual(found, tuple(spots_of(tree)))
            self.assertEqual(spots(tree=tree), found)
            if len(tree.names) >= 3:
                count = len(tree.names) + len(tree.splits)
                self.assertEqual(len(found), count + len(tree.splits) + 1)

    def test_few_names(self):
        self.assertEqual(spots(Tree([])), (("start", ()),))
        self.assertEqual(spots(Tree(["b"])), (("start", ("b",)),))
        self.assertEqual(spots(Tree(["b", "a"])), (("tie", ("b",)),))
        self.assertEqual(spots(Tree(["c", "b", "a"])), (
            ("place", (("a",), ("b",), ("c",))), ("tie", ("b",)), ("tie", ("b", "c")), ("tie", ("c",))))
        self.assertEqual(kinds(spots(Tree(["b", "a"]))), (tuple, ((tuple, (str, (tuple, (str,)))),)))

    def test_four_names(self):
        self.assertEqual(spots(FOUR), (
            ("place", (("a",), ("b",), ("c", "d"))), ("place", (("a", "b"), ("c",), ("d",))),
            ("tie", ("b",)), ("tie", ("b", "c", "d")), ("tie", ("c",)), ("tie", ("c", "d")), ("tie", ("d",))))


class TestHang(unittest.TestCase):
    def test_every_spot_of_every_tree(self):
        for tree in [tree for count in range(6) for tree in every_tree(count)]:
            for new in ("a0", "b1", "x"):
                self.check(tree, new)
            shifted = self.shifted(tree)
            self.check(shifted, "a")
            self.check(shifted, "c1")

    def shifted(self, tree):
        """The tree with each letter moved on by one, so that there is room for a name before all others."""
        table = dict(zip(LETTERS, LETTERS[1:]))
        return Tree([table[name] for name in tree.names], [[table[name] for name in side] for side in tree.splits])

    def check(self, tree, new):
        found = []
        for spot in spots(tree):
            hung = hang(tree, new, spot)
            self.assertEqual(hung, hung_by_hand(tree, new, spot))
            self.assertEqual(hang(spot=spot, name=new, tree=tree), hung)
            self.assertEqual(strike(hung, new), tree)
            self.assertEqual(spot_of(hung, new), spot)
            self.assertNotIn(hung, found)
            found.append(hung)

    def test_every_larger_tree_comes_from_one_spot(self):
        for count in range(6):
            told = every_tree(count + 1)
            for name in LETTERS[:count + 1]:
                rest = [other for other in LETTERS[:count + 1] if other != name]
                found = [hang(tree, name, spot) for tree in all_trees(rest) for spot in spots(tree)]
                self.assertEqual(sorted(tree.splits for tree in found), [tree.splits for tree in told])

    def test_eleven_names(self):
        for tree in BIG:
            self.check(tree, "l")
            self.check(tree, "a0")
            self.check(tree, "d5")
            self.check(Tree([name.replace("a", "m") for name in tree.names],
                            [[name.replace("a", "m") for name in side] for side in tree.splits]), "a")

    def test_examples(self):
        self.assertEqual(hang(Tree([]), "a", ("start", ())), Tree(["a"]))
        self.assertEqual(hang(Tree(["b"]), "a", ("start", ("b",))), Tree(["a", "b"]))
        self.assertEqual(hang(Tree(["a", "b"]), "c", ("tie", ("b",))), Tree(["a", "b", "c"]))
        three = Tree(["b", "c", "d"])
        self.assertEqual(hang(three, "a", ("tie", ("c",))), Tree(list("abcd"), [["a", "c"]]))
        self.assertEqual(hang(three, "a", ("tie", ("c", "d"))), Tree(list("abcd"), [["c", "d"]]))
        self.assertEqual(hang(three, "a", ("place", (("b",), ("c",), ("d",)))), Tree(list("abcd")))
        self.assertEqual(hang(FOUR, "e", ("tie", ("c", "d"))), Tree(list("abcde"), [["c", "d"], ["c", "d", "e"]]))
        self.assertEqual(hang(FOUR, "e", ("place", (("a", "b"), ("c",), ("d",)))),
                         Tree(list("abcde"), [["c", "d", "e"]]))
        self.assertEqual(hang(FOUR, "e", ("place", (("a",), ("b",), ("c", "d")))), Tree(list("abcde"), [["c", "d"]]))

    def test_bad_spots(self):
        bad = [("start", ("a", "b", "c", "d")), ("start", ()), ("tie", ("a",)), ("tie", ("a", "b")), ("tie", ()),
               ("tie", ("d", "c")), ("tie", ("b", "c")), ("tie", ("c", "e")), ("tie", ("c", "z")), ("tie", ("A",)),
               ("tie", ("a", "b", "c", "d")), ("tie", ("c", "c")), ("tie", (("c", "d"),)), ("Tie", ("b",)), ("", ()),
               ("place", ("b",)), ("tie", (("a",), ("b",), ("c", "d"))), ("place", ()), ("place", ((),)),
               ("place", (("b",), ("a",), ("c", "d"))), ("place", (("a",), ("b",), ("d", "c"))),
               ("place", (("a",), ("b",), ("c",), ("d",))), ("place", (("a",), ("b",), ("c", "e"))),
               ("place", (("a",), ("b", "c", "d"))), ("place", (("a",), ("b",), ("c", "D")))]
        for spot in bad:
            self.assertEqual(raised(hang, FOUR, "e", spot), ("BadSpot",))
        for tree in (Tree([]), Tree(["b"])):
            self.assertEqual(raised(hang, tree, "e", ("start", ("a",))), ("BadSpot",))
            self.assertEqual(raised(hang, tree, "e", ("tie", ("b",))), ("BadSpot",))
        self.assertEqual(raised(hang, Tree(["b"]), "e", ("start", ())), ("BadSpot",))
        self.assertEqual(raised(hang, Tree(["a", "b"]), "e", ("tie", ("a",))), ("BadSpot",))
        self.assertEqual(raised(hang, Tree(["a", "b"]), "e", ("start", ("a", "b"))), ("BadSpot",))

    def test_errors(self):
        for value in ("A", "", "a_", "abcdefghi", None, True, 4):
            self.assertEqual(raised(hang, FULL[0], value, ("no", ())), ("BadName", value))
        self.assertEqual(raised(hang, FOUR, "d", ("no", ())), ("RepeatedName", "d"))
        for tree in FULL:
            self.assertEqual(raised(hang, tree, "d", ("no", ())), ("RepeatedName", "d"))
            self.assertEqual(raised(hang, tree, "z", ("no", ())), ("TooMany", 12))
            for spot in spots(tree):
                self.assertEqual(raised(hang, tree, "z", spot), ("TooMany", 12))

    def test_trees_stay_and_answers_stay(self):
        tree = Tree(FOUR.names, FOUR.splits)
        first = [hang(tree, "e", spot) for spot in spots(tree)]
        self.assertEqual([hang(tree, "e", spot) for spot in spots(tree)], first)
        self.assertEqual(tree, FOUR)


class TestSpotOf(unittest.TestCase):
    def test_every_name_of_every_tree(self):
        for tree in [tree for count in range(1, 7) for tree in every_tree(count)] + FULL + BIG:
            for name in tree.names:
                spot = spot_of(tree, name)
                left = strike(tree, name)
                self.assertEqual(left.names, tuple(other for other in tree.names if other != name))
                self.assertIn(spot, spots_of(left))
                self.assertEqual(hung_by_hand(left, name, spot), tree)
                self.assertEqual(spot_of(name=name, tree=tree), spot)

    def test_few_names(self):
        self.assertEqual(spot_of(Tree(["a"]), "a"), ("start", ()))
        self.assertEqual(spot_of(Tree(["a", "b"]), "a"), ("start", ("b",)))
        self.assertEqual(spot_of(Tree(["a", "b", "c"]), "a"), ("tie", ("c",)))
        self.assertEqual(spot_of(FOUR, "a"), ("tie", ("c", "d")))

    def test_errors(self):
        self.assertEqual(raised(spot_of, FOUR, "z"), ("UnknownName", "z"))
        self.assertEqual(raised(spot_of, Tree([]), "a"), ("UnknownName", "a"))
        for value in ("A", None, False, 0):
            self.assertEqual(raised(spot_of, FOUR, value), ("BadName", value))


class TestHangPairAndBeside(unittest.TestCase):
    def test_every_name_of_every_tree(self):
        for tree in [tree for count in range(1, 6) for tree in every_tree(count)] + BIG:
            for name, new in itertools.product(tree.names, ("a0", "c7", "z")):
                sides = beside_by_hand(tree, name, new)
                pair = with_sides(tree, new, sides + [{name, new}])
                self.assertEqual(hang_pair(tree, name, new), pair)
                self.assertEqual(hang_pair(new=new, name=name, tree=tree), pair)
                if len(tree.names) >= 3:
                    self.assertEqual(hang_beside(tree, name, new), with_sides(tree, new, sides))
                    self.assertEqual(hang_beside(new=new, name=name, tree=tree), with_sides(tree, new, sides))

    def test_the_new_name_before_all_others(self):
        tree = Tree(["b", "c", "d", "e"], [["d", "e"]])
        self.assertEqual(hang_pair(tree, "b", "a"), Tree(list("abcde"), [["a", "b"], ["d", "e"]]))
        self.assertEqual(hang_pair(tree, "e", "a"), Tree(list("abcde"), [["a", "e"], ["a", "d", "e"]]))
        self.assertEqual(hang_beside(tree, "b", "a"), Tree(list("abcde"), [["d", "e"]]))
        self.assertEqual(hang_beside(tree, "d", "a"), Tree(list("abcde"), [["b", "c"]]))

    def test_the_first_name(self):
        self.assertEqual(hang_pair(FOUR, "a", "e"), hang(FOUR, "e", ("tie", ("b", "c", "d"))))
        self.assertEqual(hang_pair(FOUR, "a", "e"), Tree(list("abcde"), [["a", "e"], ["c", "d"]]))
        self.assertEqual(hang_beside(FOUR, "a", "e"), Tree(list("abcde"), [["c", "d"]]))
        self.assertEqual(hang_pair(Tree(["a", "b"]), "a", "c"), Tree(["a", "b", "c"]))
        self.assertEqual(hang_pair(Tree(["a", "b"]), "b", "c"), Tree(["a", "b", "c"]))
        self.assertEqual(hang_pair(Tree(["b"]), "b", "a"), Tree(["a", "b"]))
        self.assertEqual(hang_pair(Tree(["a", "b", "c"]), "a", "d"), Tree(list("abcd"), [["a", "d"]]))
        self.assertEqual(hang_beside(Tree(["a", "b", "c"]), "a", "d"), Tree(list("abcd")))

    def test_errors_of_both(self):
        for call in (hang_pair, hang_beside):
            self.assertEqual(raised(call, FOUR, "z", "a"), ("UnknownName", "z"))
            self.assertEqual(raised(call, FOUR, "z", "z"), ("UnknownName", "z"))
            self.assertEqual(raised(call, Tree([]), "a", "a"), ("UnknownName", "a"))
            self.assertEqual(raised(call, Tree([]), "a", "b"), ("UnknownName", "a"))
            self.assertEqual(raised(call, FOUR, "a", "b"), ("RepeatedName", "b"))
            self.assertEqual(raised(call, FOUR, "a", "a"), ("RepeatedName", "a"))
            self.assertEqual(raised(call, Tree(["a"]), "a", "a"), ("RepeatedName", "a"))
            self.assertEqual(raised(call, FULL[1], "z", "y"), ("UnknownName", "z"))
            self.assertEqual(raised(call, FULL[1], "a", "b"), ("RepeatedName", "b"))
            self.assertEqual(raised(call, FULL[1], "a", "z"), ("TooMany", 12))
            self.assertEqual(raised(call, FOUR, "A", "B"), ("BadName", "A"))
            self.assertEqual(raised(call, FOUR, "z", "B"), ("BadName", "B"))
            self.assertEqual(raised(call, FOUR, None, "b"), ("BadName", None))
            self.assertEqual(raised(call, FOUR, "a", 7), ("BadName", 7))

    def test_beside_needs_a_place(self):
        self.assertEqual(raised(hang_beside, Tree(["a"]), "a", "b"), ("WrongCount", 1))
        self.assertEqual(raised(hang_beside, Tree(["a", "b"]), "a", "c"), ("WrongCount", 2))
        self.assertEqual(raised(hang_beside, Tree(["a", "b"]), "a", "b"), ("RepeatedName", "b"))
        self.assertEqual(raised(hang_beside, Tree(["a", "b"]), "c", "d"), ("UnknownName", "c"))

    def test_trees_stay(self):
        tree = Tree(FOUR.names, FOUR.splits)
        for _ in range(2):
            self.assertEqual(hang_pair(tree, "c", "e"), Tree(list("abcde"), [["c", "e"], ["c", "d", "e"]]))
            self.assertEqual(hang_beside(tree, "c", "e"), Tree(list("abcde"), [["c", "d", "e"]]))
        self.assertEqual(tree, FOUR)


class TestAllTrees(unittest.TestCase):
    def test_every_count(self):
        for count, many in enumerate([1, 1, 1, 1, 4, 26, 236]):
            found = all_trees(list(LETTERS[:count]))
            self.assertIs(type(found), tuple)
            self.assertEqual(list(found), every_tree(count))
            self.assertEqual(len(found), many)
            self.assertEqual([tree.splits for tree in found], sorted(tree.splits for tree in found))

    def test_other_names_and_orders(self):
        told = (Tree(list("fhkx")), Tree(list("fhkx"), [["h", "k"]]), Tree(list("fhkx"), [["h", "x"]]),
                Tree(list("fhkx"), [["k", "x"]]))
        for names in itertools.permutations("fhkx"):
            self.assertEqual(all_trees(names), told)
            self.assertEqual(all_trees(names=list(names)), told)
        self.assertEqual(all_trees([]), (Tree([]),))
        self.assertEqual(all_trees(()), (Tree([]),))

    def test_errors(self):
        self.assertEqual(raised(all_trees, LETTERS[:7]), ("TooMany", 6))
        self.assertEqual(raised(all_trees, TWELVE), ("TooMany", 6))
        self.assertEqual(raised(all_trees, THIRTEEN), ("TooMany", 12))
        self.assertEqual(raised(all_trees, ["a", "a", "B"]), ("BadName", "B"))
        self.assertEqual(raised(all_trees, list("abcdefga")), ("RepeatedName", "a"))
        self.assertEqual(raised(all_trees, ["a", None]), ("BadName", None))

    def test_arguments_stay_and_answers_stay(self):
        names = ["d", "c", "b", "a"]
        first = all_trees(names)
        self.assertEqual(names, ["d", "c", "b", "a"])
        names.append("e")
        self.assertEqual(first, all_trees(["d", "c", "b", "a"]))


@functools.lru_cache(None)
def told_count(count, inner):
    """The number of trees with so many names and places, by the document's words."""
    if count <= 2:
        return 1 if inner == 0 else 0
    if count == 3:
        return 1 if inner == 1 else 0
    if inner == 0:
        return 0
    return inner * told_count(count - 1, inner) + (count - 1 + inner - 2) * told_count(count - 1, inner - 1)


class TestCountTrees(unittest.TestCase):
    def test_the_recurrence(self):
        for count in range(13):
            row = [told_count(count, inner) for inner in range(13)]
            self.assertEqual([count_trees(count, inner=inner) for inner in range(13)], row)
            self.assertEqual(count_trees(count), sum(row))
            self.assertEqual(count_trees(count=count, inner=None), sum(row))
            self.assertIs(type(count_trees(count)), int)

    def test_the_numbers_of_the_document(self):
        self.assertEqual([count_trees(count) for count in range(8)], [1, 1, 1, 1, 4, 26, 236, 2752])
        self.assertEqual([count_trees(5, inner=inner) for inner in range(5)], [0, 1, 10, 15, 0])
        self.assertEqual([count_trees(2, inner=inner) for inner in range(3)], [1, 0, 0])
        self.assertEqual(count_trees(12), 6939897856)
        # Full trees: 1 * 3 * 5 * .. * 19.
        self.assertEqual(count_trees(12, inner=10), 654729075)
        self.assertEqual(count_trees(12, inner=11), 0)
        self.assertEqual(count_trees(12, inner=1), 1)

    def test_the_trees_themselves(self):
        for count in range(7):
            trees = every_tree(count)
            for inner in range(13):
                told = [tree for tree in trees if (len(tree.splits) + 1 if count >= 3 else 0) == inner]
                self.assertEqual(count_trees(count, inner=inner), len(told))
        self.assertEqual(count_trees(7), len(every_tree(7)))

    def test_zero_is_not_none(self):
        self.assertEqual(count_trees(6, inner=0), 0)
        self.assertEqual(count_trees(6, inner=None), 236)
        self.assertEqual(count_trees(6), 236)
        self.assertEqual(count_trees(0, inner=0), 1)

    def test_errors(self):
        for value in (-1, 13, 10 ** 30, True, False, None, "3"):
            self.assertEqual(raised(count_trees, value), ("BadNumber", value))
            self.assertEqual(raised(count_trees, value, inner=-1), ("BadNumber", value))
            if value is not None:
                self.assertEqual(raised(count_trees, 3, inner=value), ("BadNumber", value))


if __name__ == "__main__":
    unittest.main()
