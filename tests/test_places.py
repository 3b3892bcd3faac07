"""Promises [17] to [19] and the interface of fourmet/places.py."""

import itertools
import unittest

from fourmet.places import from_places, meeting_place, name_place, places, ties, way
from fourmet.trees import Tree
from helpers import (LETTERS, THIRTEEN, TWELVE, caterpillar, every_tree, is_name_tuple, kinds, middle, middles, raised,
                     split_sets)

FOUR = Tree(["a", "b", "c", "d"], [["c", "d"]])
SIX = Tree(list("abcdef"), [["e", "f"], ["d", "e", "f"]])
TREES = [tree for count in range(7) for tree in every_tree(count)] + [Tree(TWELVE), caterpillar(12)]


class TestTies(unittest.TestCase):
    def test_every_tree(self):
        for tree in TREES:
            told = set(tree.splits) | {(name,) for name in tree.names[1:]}
            if len(tree.names) >= 2:
                told.add(tree.names[1:])
            self.assertEqual(ties(tree), tuple(sorted(told)))
            self.assertEqual(ties(tree=tree), ties(tree))

    def test_few_names(self):
        self.assertEqual(ties(Tree([])), ())
        self.assertEqual(ties(Tree(["a"])), ())
        self.assertEqual(ties(Tree(["b", "a"])), (("b",),))
        self.assertEqual(ties(Tree(["c", "b", "a"])), (("b",), ("b", "c"), ("c",)))
        self.assertEqual(ties(FOUR), (("b",), ("b", "c", "d"), ("c",), ("c", "d"), ("d",)))
        self.assertEqual(kinds(ties(Tree(["b", "a"]))), (tuple, ((tuple, (str,)),)))


class TestPlaces(unittest.TestCase):
    def test_every_tree(self):
        for tree in TREES:
            self.assertEqual(places(tree), middles(tree))
            self.assertEqual(len(places(tree=tree)), 0 if len(tree.names) < 3 else len(tree.splits) + 1)

    def test_few_names(self):
        for count in range(3):
            self.assertEqual(places(Tree(list(LETTERS[:count]))), ())
        self.assertEqual(places(Tree(["c", "a", "b"])), ((("a",), ("b",), ("c",)),))
        self.assertEqual(places(FOUR), ((("a",), ("b",), ("c", "d")), (("a", "b"), ("c",), ("d",))))
        self.assertEqual(kinds(places(FOUR)[0]), (tuple, ((tuple, (str,)), (tuple, (str,)), (tuple, (str, str)))))

    def test_ways_divide_all_names(self):
        for tree in TREES:
            for place in places(tree):
                self.assertGreaterEqual(len(place), 3)
                self.assertEqual(sorted(name for told in place for name in told), list(tree.names))
                self.assertTrue(all(is_name_tuple(told) and told for told in place))


class TestFromPlaces(unittest.TestCase):
    def test_every_tree_comes_back(self):
        for tree in TREES:
            told = places(tree)
            self.assertEqual(from_places(tree.names, told), tree)
            turned = [[list(one[::-1]) for one in place[::-1]] for place in told[::-1]]
            self.assertEqual(from_places(told=turned + turned[:1], names=list(tree.names[::-1])), tree)

    def test_places_told_twice_count_once(self):
        place = [["a"], ["b"], ["c"]]
        again = (("c",), ("a",), ("b",))
        self.assertEqual(from_places(["a", "b", "c"], [place, again, place]), Tree(["a", "b", "c"]))

    def test_missing_and_strange_places(self):
        for tree in every_tree(4) + every_tree(5):
            told = list(places(tree))
            for at in range(len(told)):
                self.assertEqual(raised(from_places, tree.names, told[:at] + told[at + 1:]), ("BadPlaces",))
            for other in every_tree(len(tree.names)):
                more = [place for place in places(other) if place not in told]
                for place in more:
                    self.assertEqual(raised(from_places, tree.names, told + [place]), ("BadPlaces",))

    def test_all_sets_of_places_on_four_names(self):
        names = "abcd"
        found = sorted({place for tree in every_tree(4) for place in places(tree)})
        good = {places(tree): tree for tree in every_tree(4)}
        self.assertEqual(len(good), len(split_sets(names)))
        for size in range(len(found) + 1):
            for told in itertools.combinations(found, size):
                if told in good:
                    self.assertEqual(from_places(list(names), told), good[told])
                else:
                    self.assertEqual(raised(from_places, list(names), told), ("BadPlaces",))

    def test_faulty_places(self):
        names = ["a", "b", "c"]
        good = [["a"], ["b"], ["c"]]
        faulty = [[], [[]], [["a"], ["b"], ["c"], []], [["a"], ["b"], ["c"], ["c"]], [["a"], ["b"]], [["a"], ["b", "c"]],
                  [["a", "b"], ["b"], ["c"]], [["a"], ["b"], ["d"]], [["a"], ["b"], ["c"], ["d"]], [["a", "b", "c"]],
                  [["a"], ["b"], ["c", "d"]], [["z"], ["y"], ["x"]]]
        for place in faulty:
            self.assertEqual(raised(from_places, names, [place]), ("BadPlaces",))
            self.assertEqual(raised(from_places, names, [good, place]), ("BadPlaces",))
            self.assertEqual(raised(from_places, names, [place, good]), ("BadPlaces",))
        self.assertEqual(raised(from_places, names, []), ("BadPlaces",))

    def test_strange_names_in_ways_that_could_be_sides(self):
        names = list("abcd")
        good = [[["a"], ["b"], ["c", "d"]], [["a", "b"], ["c"], ["d"]]]
        self.assertEqual(from_places(names, good), FOUR)
        for place in ([["a"], ["b"], ["c", "z"]], [["a"], ["b"], ["y", "z"]], [["a", "z"], ["b"], ["c", "d"]],
                      [["a"], ["b"], ["c", "d"], ["y", "z"]], [["z", "y"], ["c"], ["d"]]):
            for told in ([place], good + [place], [place] + good, [good[0], place], [good[1], place]):
                self.assertEqual(raised(from_places, names, told), ("BadPlaces",))

    def test_few_names(self):
        for count in range(3):
            names = list(LETTERS[:count])
            self.assertEqual(from_places(names, []), Tree(names))
            self.assertEqual(from_places(tuple(names), ()), Tree(names))
            for place in ([], [[]], [["a"]], [["a"], ["b"]], [["a"], ["b"], []], [["a"], ["b"], ["c"]]):
                self.assertEqual(raised(from_places, names, [place]), ("BadPlaces",))

    def test_a_way_twice_does_not_help_a_split(self):
        told = [[["a"], ["b"], ["c", "d"], ["c", "d"]], [["a", "b"], ["c"], ["d"]]]
        self.assertEqual(raised(from_places, list("abcd"), told), ("BadPlaces",))

    def test_step_one(self):
        self.assertEqual(raised(from_places, ["A"], [[["b", "b"]]]), ("BadName", "A"))
        self.assertEqual(raised(from_places, ["a", "a"], [[["B"]]]), ("RepeatedName", "a"))
        self.assertEqual(raised(from_places, ["a"], [[], [["z"], ["b", "b"]], [["B"]]]), ("RepeatedName", "b"))
        self.assertEqual(raised(from_places, ["a"], [[["z"], THIRTEEN]]), ("TooMany", 12))
        for value in ("A", None, True, 0):
            self.assertEqual(raised(from_places, ["a"], [[["z"]], [["b"], ["c", value]]]), ("BadName", value))

    def test_arguments_stay(self):
        names, told = ["c", "b", "a"], [[["c"], ["b"], ["a"]]]
        from_places(names, told)
        self.assertEqual((names, told), (["c", "b", "a"], [[["c"], ["b"], ["a"]]]))


class TestWay(unittest.TestCase):
    def oracle(self, tree, found, one, two):
        lots = {}
        for place in found:
            [near] = [told for told in place if one in told]
            [far] = [told for told in place if two in told]
            if near != far:
                self.assertNotIn(len(near), lots)
                lots[len(near)] = tuple(name for name in tree.names if name not in near + far)
        return tuple(lots[size] for size in sorted(lots))

    def test_every_pair(self):
        for tree in every_tree(3) + every_tree(5) + every_tree(6)[::7] + [caterpillar(12), Tree(TWELVE)]:
            found = middles(tree)
            for one, two in itertools.permutations(tree.names, 2):
                lots = way(tree, one, two)
                self.assertEqual(lots, self.oracle(tree, found, one, two))
                self.assertEqual(lots, way(two=one, one=two, tree=tree)[::-1])
                self.assertEqual(sorted(sum(lots, (one, two))), list(tree.names))
                self.assertTrue(all(is_name_tuple(lot) and lot for lot in lots))

    def test_examples(self):
        self.assertEqual(way(FOUR, "a", "d"), (("b",), ("c",)))
        self.assertEqual(way(FOUR, "d", "a"), (("c",), ("b",)))
        self.assertEqual(way(FOUR, "a", "b"), (("c", "d"),))
        self.assertEqual(way(SIX, "f", "a"), (("e",), ("d",), ("b", "c")))
        self.assertEqual(way(Tree(["a", "b"]), "a", "b"), ())
        self.assertEqual(way(Tree(TWELVE), "b", "a"), (tuple(TWELVE[2:]),))

    def test_errors(self):
        self.assertEqual(raised(way, FOUR, "z", "y"), ("UnknownName", "z"))
        self.assertEqual(raised(way, FOUR, "a", "y"), ("UnknownName", "y"))
        self.assertEqual(raised(way, FOUR, "z", "z"), ("UnknownName", "z"))
        self.assertEqual(raised(way, FOUR, "a", "a"), ("RepeatedName", "a"))
        self.assertEqual(raised(way, FOUR, "z", "B"), ("BadName", "B"))
        self.assertEqual(raised(way, FOUR, 1, None), ("BadName", 1))
        self.assertEqual(raised(way, Tree([]), "a", "a"), ("UnknownName", "a"))
        self.assertEqual(raised(way, Tree(["a"]), "a", "a"), ("RepeatedName", "a"))


class TestMeetings(unittest.TestCase):
    def test_every_three(self):
        for tree in every_tree(3) + every_tree(5) + every_tree(6)[::7]:
            for three in itertools.permutations(tree.names, 3):
                self.assertEqual(meeting_place(tree, three), middle(tree, sorted(three)))
        self.assertEqual(meeting_place(names=["d", "a", "c"], tree=FOUR), (("a", "b"), ("c",), ("d",)))
        self.assertIn(meeting_place(caterpillar(12), ["l", "a", "f"]), places(caterpillar(12)))

    def test_errors(self):
        for count in (0, 1, 2, 4, 5):
            self.assertEqual(raised(meeting_place, FOUR, THIRTEEN[:count]), ("WrongCount", count))
        self.assertEqual(raised(meeting_place, FOUR, ["z", "a", "y"]), ("UnknownName", "y"))
        self.assertEqual(raised(meeting_place, FOUR, ["z", "y"]), ("WrongCount", 2))
        self.assertEqual(raised(meeting_place, FOUR, ["a", "a", "b"]), ("RepeatedName", "a"))
        self.assertEqual(raised(meeting_place, FOUR, ["a", False]), ("BadName", False))
        self.assertEqual(raised(meeting_place, FOUR, THIRTEEN), ("TooMany", 12))
        self.assertEqual(raised(meeting_place, Tree(["a"]), ["a", "b", "c"]), ("UnknownName", "b"))

    def test_name_place(self):
        for tree in TREES:
            told = middles(tree)
            for name in tree.names:
                found = [place for place in told if (name,) in place]
                self.assertEqual([name_place(tree, name)], found or [None])
                self.assertEqual(name_place(name=name, tree=tree), name_place(tree, name))
        self.assertIsNone(name_place(Tree(["a"]), "a"))
        self.assertIsNone(name_place(Tree(["a", "b"]), "a"))

    def test_name_place_errors(self):
        self.assertEqual(raised(name_place, FOUR, "z"), ("UnknownName", "z"))
        self.assertEqual(raised(name_place, Tree([]), "a"), ("UnknownName", "a"))
        self.assertEqual(raised(name_place, FOUR, "Z"), ("BadName", "Z"))
        self.assertEqual(raised(name_place, FOUR, None), ("BadName", None))


class TestStaying(unittest.TestCase):
    def test_the_tree_stays_and_answers_stay(self):
        tree = Tree(SIX.names, SIX.splits)
        first = [ties(tree), places(tree), way(tree, "a", "f"), meeting_place(tree, ["a", "d", "f"])]
        raised(way, tree, "a", "a")
        again = [ties(tree), places(tree), way(tree, "a", "f"), meeting_place(tree, ["a", "d", "f"])]
        self.assertEqual(first, again)
        self.assertEqual(tree, SIX)


if __name__ == "__main__":
    unittest.main()
