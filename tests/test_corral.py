"""Promises [66] to [70] and the interface of fourmet/corral.py."""

import functools
import itertools
import random
import unittest

from fourmet.books import Book
from fourmet.corral import (Dated, fewest_pairs, from_heights, higher_tree, highest_tree, lower_tree, only_tree,
                            other_heights, pair_heights, pairs_level, plain_pairs)
from fourmet.rooted import Rooted, read_rooted
from fourmet.trees import Tree
from helpers import LETTERS, THIRTEEN, TWELVE, kinds, raised, rooted_on

TREE = read_rooted("((a,b),c,(d,e,f))")
DATED = Dated(TREE, [2, 7, -1])
CHAIN = Rooted(TWELVE, [TWELVE[at:] for at in range(1, 11)])
NUMBERS = (True, False, None, "1", "")
# Pairs that are none, with what is due for them whatever the names are.
FAULTY_PAIRS = [
    ([["a", "B"]], ("BadName", "B")), ([["a", "b"], ["a", "a"], ["B", "C"]], ("RepeatedName", "a")),
    ([["a", "a", None]], ("BadName", None)), ([["a"]], ("WrongCount", 1)), ([[]], ("WrongCount", 0)),
    ([["a", "b"], ["a", "b", "c"], ["a", "a"]], ("WrongCount", 3)), ([THIRTEEN], ("TooMany", 12)),
    ([["zz", "z"], ["a", True]], ("BadName", True)), ([["z", "a"], ["a", 3]], ("BadName", 3)),
]


def few():
    """All rooted trees on up to four names."""
    return [rooted for count in range(5) for rooted in rooted_on(tuple(LETTERS[:count]))]


def pairs_of(names):
    return list(itertools.combinations(names, 2))


def sets_of(pairs):
    return [told for size in range(len(pairs) + 1) for told in itertools.combinations(pairs, size)]


def height_by_hand(dated, one, two):
    """The height of the smallest ball that holds both."""
    return min((len(ball), height) for ball, height in zip(dated.rooted.balls, dated.heights)
               if one in ball and two in ball)[1]


def heights_by_hand(dated):
    return {pair: height_by_hand(dated, *pair) for pair in pairs_of(dated.names)}


@functools.lru_cache(None)
def family(names, low, high):
    """All dated trees on the names with heights from low to high, each with the heights of all its pairs."""
    found = []
    for rooted in rooted_on(names):
        balls = rooted.balls
        for heights in itertools.product(range(low, high + 1), repeat=len(balls)):
            if all(heights[at] < heights[to] for at, ball in enumerate(balls) for to, other in enumerate(balls)
                   if set(ball) < set(other)):
                dated = Dated(rooted, heights)
                found.append((dated, heights_by_hand(dated)))
    return found


def level_by_hand(rooted, pairs):
    """The level, from the links within each ball."""
    least = 3
    for ball in rooted.balls:
        children = rooted.children(ball)
        links = {(one, two) for one, two in itertools.permutations(children, 2)
                 if any(set(pair) & set(one) and set(pair) & set(two) for pair in pairs)}
        reached = [children[0]]
        for child in reached:
            reached += [two for one, two in sorted(links) if one == child and two not in reached]
        if len(links) == len(children) * (len(children) - 1):
            level = 3
        elif len(reached) == len(children):
            level = 2
        else:
            level = 1 if links else 0
        least = min(least, level)
    return least


def alike(one, two, pairs):
    return all(height_by_hand(one, *pair) == height_by_hand(two, *pair) for pair in pairs)


class TestDated(unittest.TestCase):
    def test_heights_of_balls_and_pairs(self):
        for count in range(5):
            for dated, table in family(tuple(LETTERS[:count]), 0, 2):
                rooted = dated.rooted
                self.assertEqual((dated.names, len(dated)), (rooted.names, len(rooted.balls)))
                self.assertIs(bool(dated), count >= 2)
                self.assertEqual(list(dated), list(zip(rooted.balls, dated.heights)))
                for one, two in itertools.permutations(dated.names, 2):
                    self.assertEqual(dated(one, two), table[tuple(sorted((one, two)))])
                told = tuple((one, two, table[one, two]) for one, two in pairs_of(dated.names))
                self.assertEqual(pair_heights(dated), told)
                self.assertEqual(pair_heights(dated=dated), told)

    def test_which_heights_are_right(self):
        for rooted in few():
            balls = rooted.balls
            for heights in itertools.product(range(3), repeat=len(balls)):
                right = all(heights[at] < heights[to] for at, ball in enumerate(balls) for to, other in enumerate(balls)
                            if set(ball) < set(other))
                self.assertEqual(raised(Dated, rooted, heights), None if right else ("BadPlaces",))
                self.assertEqual(raised(Dated, heights=list(heights), rooted=rooted), None if right else ("BadPlaces",))

    def test_examples(self):
        self.assertEqual(TREE.balls, (("a", "b"), tuple("abcdef"), ("d", "e", "f")))
        self.assertEqual([DATED("a", "b"), DATED("b", "a"), DATED("c", "f"), DATED("e", "d"), DATED("b", "e")],
                         [2, 2, 7, -1, 7])
        self.assertEqual((DATED.heights, DATED.rooted, DATED.names), ((2, 7, -1), TREE, tuple("abcdef")))
        self.assertEqual(kinds([DATED.names, DATED.heights, DATED("a", "b"), pair_heights(DATED)[0]]),
                         (list, ((tuple, (str,) * 6), (tuple, (int,) * 3), int, (tuple, (str, str, int)))))
        self.assertEqual(kinds(list(DATED)[2]), (tuple, ((tuple, (str,) * 3), int)))
        self.assertIs(type(DATED.rooted), Rooted)
        huge = Dated(Rooted(["a", "b", "c"], [["a", "b"]]), (-10 ** 40, 10 ** 40))
        self.assertEqual((huge("a", "b"), huge("c", "a")), (-10 ** 40, 10 ** 40))
        self.assertEqual(len(pair_heights(Dated(CHAIN, range(11, 0, -1)))), 66)

    def test_equal(self):
        same = Dated(read_rooted("((a,b),c,(f,e,d))"), (2, 7, -1))
        self.assertIs(DATED == same, True)
        self.assertIs(DATED != same, False)
        others = [Dated(TREE, [2, 7, 0]), Dated(TREE, [2, 8, -1]), TREE, Tree(list("abcdef")), Book(list("abcdef")), None,
                  3, "a", (), (2, 7, -1), Dated(read_rooted("((a,b),(c,d,e,f))"), [2, 7, -1])]
        for other in others:
            self.assertIs(DATED == other, False)
            self.assertIs(DATED != other, True)
        self.assertIs(Dated(Rooted([]), []) == Dated(Rooted([]), ()), True)
        self.assertIs(Dated(Rooted([]), []) == Dated(Rooted(["a"]), []), False)

    def test_what_is_passed_stays(self):
        heights = [2, 7, -1]
        dated = Dated(TREE, heights)
        heights[0] = 5
        heights.append(4)
        self.assertEqual(dated, DATED)
        self.assertEqual(dated.heights, (2, 7, -1))

    def test_errors(self):
        for value in NUMBERS:
            for heights in ([value], [1, value, None], [5, 1, 9, 9, value], [5, value, 1]):
                self.assertEqual(raised(Dated, TREE, heights), ("BadNumber", value))
        for heights in ([], [1], [1, 2], [1, 9, 2, 3], [9, 1, 9, 9]):
            self.assertEqual(raised(Dated, TREE, heights), ("WrongCount", len(heights)))
        for heights in ([7, 7, 1], [1, 7, 7], [8, 7, 9], [1, 0, -1]):
            self.assertEqual(raised(Dated, TREE, heights), ("BadPlaces",))
        self.assertEqual(raised(Dated, Rooted(["a"]), [1]), ("WrongCount", 1))
        for value in ("A", "", 3, True, None):
            self.assertEqual(raised(DATED, value, "B"), ("BadName", value))
            self.assertEqual(raised(DATED, "z", value), ("BadName", value))
        self.assertEqual(raised(DATED, "z", "y"), ("UnknownName", "z"))
        self.assertEqual(raised(DATED, "a", "y"), ("UnknownName", "y"))
        self.assertEqual(raised(DATED, "z", "z"), ("UnknownName", "z"))
        self.assertEqual(raised(DATED, "c", "c"), ("RepeatedName", "c"))
        self.assertEqual(raised(Dated(Rooted([]), []), "a", "a"), ("UnknownName", "a"))


class TestFromHeights(unittest.TestCase):
    def test_all_heights_of_three_and_four_names(self):
        for names in (tuple("abc"), tuple("abcd")):
            right = {tuple(table.values()): dated for dated, table in family(names, 0, 2)}
            for heights in itertools.product(range(3), repeat=len(pairs_of(names))):
                told = [(one, two, height) for (one, two), height in zip(pairs_of(names), heights)]
                if heights in right:
                    self.assertEqual(from_heights(names, told), right[heights])
                    turned = [[two, one, height] for one, two, height in told[::-1]] + told[:2]
                    self.assertEqual(from_heights(told=turned, names=list(names[::-1])), right[heights])
                    self.assertEqual(raised(from_heights, names, told[1:]), ("NoTree",))
                    self.assertEqual(raised(from_heights, names, told + [(names[1], names[0], 9)]), ("NoTree",))
                else:
                    self.assertEqual(raised(from_heights, names, told), ("NoTree",))

    def test_the_heights_of_all_pairs_give_the_dated_tree_back(self):
        for dated in (DATED, Dated(CHAIN, range(0, -110, -10)), Dated(Rooted(TWELVE), [10 ** 30]),
                      Dated(Rooted(["a", "b"]), [0]), Dated(Rooted(["a"]), []), Dated(Rooted([]), [])):
            self.assertEqual(from_heights(dated.names, pair_heights(dated)), dated)
            self.assertIs(type(from_heights(dated.names, pair_heights(dated))), Dated)

    def test_few_names(self):
        self.assertEqual(raised(from_heights, ["a", "b"], []), ("NoTree",))
        self.assertEqual(from_heights(["b", "a"], [("b", "a", -5)]), Dated(Rooted(["a", "b"]), [-5]))
        self.assertEqual(from_heights(["b", "a"], [("b", "a", -5)] * 3), Dated(Rooted(["a", "b"]), [-5]))
        self.assertEqual(raised(from_heights, ["a", "b"], [("a", "b", 1), ("b", "a", 2)]), ("NoTree",))
        self.assertEqual(raised(from_heights, ["a"], [("a", "b", 1)]), ("UnknownName", "b"))


class TestToldErrors(unittest.TestCase):
    def test_told_heights(self):
        for call in (from_heights, highest_tree, only_tree):
            for names, due in ((["a", "B"], ("BadName", "B")), (["a", "a"], ("RepeatedName", "a")), (THIRTEEN, ("TooMany", 12))):
                self.assertEqual(raised(call, names, [("A", "A", None)]), due)
            for told, due in (
                    ([("a", "B", None)], ("BadName", "B")), ([("A", "B", None)], ("BadName", "A")),
                    ([("a", "a", None)], ("RepeatedName", "a")), ([("a", "b", "1")], ("BadNumber", "1")),
                    ([("a", "z", 1), ("y", "y", 1), ("B", "a", 1)], ("RepeatedName", "y")),
                    ([("a", "z", 1), ("a", "b", True), ("B", "a", 1)], ("BadNumber", True)),
                    ([("a", "z", 1), (None, 3, 1)], ("BadName", None)), ([("a", 3, 1)], ("BadName", 3)),
                    ([("a", "b", None)], ("BadNumber", None)), ([("a", "b", 1), ("b", "a", False)], ("BadNumber", False)),
                    ([("a", "b", 1), ("z", "y", 1), ("x", "a", 1)], ("UnknownName", "y")),
                    ([("a", "b", 1), ("a", "b", 2), ("z", "a", 1), ("y", "x", 3)], ("UnknownName", "z"))):
                self.assertEqual(raised(call, list("abc"), told), due)
                self.assertEqual(raised(call, names=("c", "b", "a"), told=tuple(map(list, told))), due)

    def test_pairs(self):
        for call, first in ((pairs_level, TREE), (other_heights, TREE), (higher_tree, DATED), (lower_tree, DATED)):
            for pairs, due in FAULTY_PAIRS:
                self.assertEqual(raised(call, first, pairs), due)
            for pairs, name in (([["a", "b"], ["z", "y"], ["x", "a"]], "y"), ([("z", "a"), ("b", "y")], "z"),
                                ([["g", "a"]], "g")):
                self.assertEqual(raised(call, first, pairs), ("UnknownName", name))
        empty = Rooted([])
        self.assertEqual(raised(pairs_level, empty, [["a", "b"]]), ("UnknownName", "a"))
        self.assertEqual(raised(other_heights, empty, [["b", "a"]]), ("UnknownName", "a"))
        self.assertEqual(raised(lower_tree, Dated(empty, []), [["b", "a"]]), ("UnknownName", "a"))

    def test_levels(self):
        for call in (plain_pairs, fewest_pairs):
            for value in (0, 4, -1, 10 ** 30, *NUMBERS):
                for rooted in (TREE, Rooted([]), CHAIN):
                    self.assertEqual(raised(call, rooted, level=value), ("BadNumber", value))
        self.assertIsNone(raised(fewest_pairs, Rooted(list("abcd"))))
        for level in (1, 2, 3):
            self.assertEqual(raised(fewest_pairs, Rooted(list("abcde")), level=level), ("TooMany", 4))
            self.assertEqual(raised(fewest_pairs, CHAIN, level=level), ("TooMany", 4))


class TestLevels(unittest.TestCase):
    def test_all_sets_of_pairs(self):
        seen = set()
        for rooted in few():
            for pairs in sets_of(pairs_of(rooted.names)):
                level = level_by_hand(rooted, pairs)
                seen.add(level)
                self.assertEqual(pairs_level(rooted, pairs), level)
                turned = [list(pair[::-1]) for pair in pairs[::-1]] + [list(pair) for pair in pairs]
                self.assertEqual(pairs_level(pairs=turned, rooted=rooted), level)
        self.assertEqual(seen, {0, 1, 2, 3})

    def test_six_names(self):
        source = random.Random(6)
        for _ in range(60):
            pairs = source.sample(pairs_of(TREE.names), source.randrange(16))
            self.assertEqual(pairs_level(TREE, pairs), level_by_hand(TREE, pairs))

    def test_examples(self):
        self.assertEqual([pairs_level(Rooted([]), []), pairs_level(Rooted(["a"]), []), pairs_level(Rooted(["a", "b"]), []),
                          pairs_level(Rooted(["a", "b"]), [["b", "a"]])], [3, 3, 0, 3])
        pairs = [["a", "b"], ["c", "b"], ["d", "e"]]
        self.assertEqual(pairs_level(TREE, pairs), 1)
        self.assertEqual(pairs_level(TREE, pairs + [["d", "a"], ["f", "d"]]), 2)
        self.assertEqual(pairs_level(TREE, pairs + [["d", "a"], ["f", "d"], ["e", "f"], ["c", "e"]]), 3)
        self.assertEqual(pairs_level(TREE, [["a", "b"], ["d", "e"]]), 0)
        self.assertIs(type(pairs_level(TREE, pairs)), int)
        self.assertEqual(pairs_level(CHAIN, [(one, "l") for one in TWELVE[:11]]), 3)

    def test_what_the_levels_say(self):
        """[67]: heights of the pairs against all dated trees with heights in a small range."""
        for names in (tuple("ab"), tuple("abc"), tuple("abcd")):
            wide = family(names, -1, 4) if len(names) < 4 else family(names, 0, 4)
            for rooted in rooted_on(names):
                own = [(dated, table) for dated, table in wide if dated.rooted == rooted]
                inner = [(dated, table) for dated, table in own if all(1 <= number <= 3 for number in dated.heights)]
                if not inner:
                    inner = own[:2]
                for pairs in sets_of(pairs_of(names))[::1 if len(names) < 4 else 5]:
                    level = pairs_level(rooted, pairs)
                    rows = {}
                    for dated, table in own:
                        rows.setdefault(tuple(table[pair] for pair in pairs), []).append(dated)
                    self.assertEqual(level >= 1, all(len(row) == 1 for row in rows.values()))
                    dated, table = inner[len(inner) // 2]
                    others = [other for tree, other in wide if tree != dated
                              and all(other[pair] == table[pair] for pair in pairs)]
                    if level >= 2:
                        self.assertTrue(all(other[pair] <= table[pair] for other in others for pair in table))
                    if level == 3:
                        self.assertEqual(others, [])


class TestTreesAgainstALevel(unittest.TestCase):
    def test_other_heights(self):
        for rooted in few() + [TREE, read_rooted("(a,(b,c),(d,e),(f,(g,(h,i))))")]:
            for pairs in [pairs for pairs in sets_of(pairs_of(rooted.names[:4]))]:
                if level_by_hand(rooted, pairs) >= 1:
                    self.assertIsNone(other_heights(rooted, pairs))
                    continue
                first, second = other_heights(rooted, pairs)
                self.assertEqual(other_heights(pairs=pairs[::-1], rooted=rooted), (first, second))
                self.assertEqual((first.rooted, second.rooted), (rooted, rooted))
                self.assertTrue(alike(first, second, pairs))
                steps = {}
                for ball in sorted(rooted.balls, key=len):
                    steps[ball] = 1 + max([steps[row] for row in steps if set(row) < set(ball)], default=0)
                self.assertEqual(first.heights, tuple(2 * steps[ball] for ball in rooted.balls))
                bare = next(ball for ball in rooted.balls if not any(
                    set(pair) <= set(ball) and not any(set(pair) <= set(child) for child in rooted.children(ball))
                    for pair in pairs))
                self.assertEqual(second.heights, tuple(2 * steps[ball] + (ball == bare) for ball in rooted.balls))

    def test_higher_and_lower_trees(self):
        for names in (tuple("ab"), tuple("abc"), tuple("abcd")):
            for dated, table in family(names, 1, 3)[::3 if len(names) == 4 else 1]:
                for pairs in sets_of(pairs_of(names))[::1 if len(names) < 4 else 7]:
                    level = level_by_hand(dated.rooted, pairs)
                    higher, lower = higher_tree(dated, pairs), lower_tree(dated, pairs)
                    self.assertEqual((higher is None, lower is None), (level >= 2, level >= 3))
                    if higher is not None:
                        self.assertEqual(higher, self.higher_by_hand(dated, table, pairs))
                        self.assertTrue(alike(dated, higher, pairs))
                        self.assertTrue(any(heights_by_hand(higher)[pair] > table[pair] for pair in table))
                        self.assertEqual(higher_tree(pairs=pairs[::-1], dated=dated), higher)
                    if lower is not None:
                        self.assertEqual(lower, self.lower_by_hand(dated, table, pairs))
                        self.assertTrue(alike(dated, lower, pairs))
                        self.assertNotEqual(lower, dated)
                        self.assertEqual(lower_tree(pairs=list(pairs), dated=dated), lower)

    def linked(self, one, two, pairs):
        return any(set(pair) & set(one) and set(pair) & set(two) for pair in pairs)

    def changed(self, table, one, two, height):
        return from_heights(sorted({name for pair in table for name in pair}), [
            (*pair, height if (pair[0] in one and pair[1] in two) or (pair[0] in two and pair[1] in one) else old)
            for pair, old in table.items()])

    def higher_by_hand(self, dated, table, pairs):
        for ball, height in dated:
            children = dated.rooted.children(ball)
            group = [children[0]]
            for child in group:
                group += [row for row in children if row not in group and self.linked(child, row, pairs)]
            if len(group) < len(children):
                inside = {name for child in group for name in child}
                above = [(len(row), number) for row, number in dated if set(row) > set(ball)]
                new = min(above)[1] if above else height + 1
                return self.changed(table, inside, set(ball) - inside, new)
        return None

    def lower_by_hand(self, dated, table, pairs):
        heights = dict(dated)
        for ball, height in dated:
            for one, two in itertools.combinations(dated.rooted.children(ball), 2):
                if not self.linked(one, two, pairs):
                    new = max([heights[child] for child in (one, two) if len(child) > 1], default=height - 1)
                    return self.changed(table, one, two, new)
        return None

    def test_examples(self):
        self.assertEqual(higher_tree(DATED, []), Dated(read_rooted("(a,b,c,(d,e,f))"), [7, -1]))
        self.assertEqual(higher_tree(DATED, [["a", "b"]]), Dated(read_rooted("((a,b),(c,(d,e,f)))"), [2, 8, 7, -1]))
        self.assertEqual(lower_tree(DATED, []), Dated(TREE, [1, 7, -1]))
        self.assertEqual(lower_tree(DATED, [["a", "b"]]).rooted, read_rooted("((a,b,c),(d,e,f))"))
        self.assertEqual(lower_tree(DATED, [["a", "b"]])("a", "c"), 2)
        for dated in (Dated(Rooted([]), []), Dated(Rooted(["a"]), [])):
            self.assertEqual((higher_tree(dated, []), lower_tree(dated, []), other_heights(dated.rooted, [])),
                             (None, None, None))
        two = Dated(Rooted(["a", "b"]), [5])
        self.assertEqual((higher_tree(two, []).heights, lower_tree(two, []).heights), ((6,), (4,)))
        self.assertEqual([dated.heights for dated in other_heights(two.rooted, [])], [(2,), (3,)])
        self.assertEqual(kinds(other_heights(TREE, [])), (tuple, (Dated, Dated)))


class TestToldHeights(unittest.TestCase):
    def fitting(self, names, told, low, high):
        return [(dated, table) for dated, table in family(names, low, high)
                if all(table[tuple(sorted((one, two)))] == height for one, two, height in told)]

    def test_against_all_dated_trees(self):
        source = random.Random(9)
        seen = set()
        cases = []
        for names in (tuple("a"), tuple("ab"), tuple("abc")):
            rows = [[None, 1, 2]] * len(pairs_of(names))
            for heights in itertools.product(*rows):
                cases.append((names, [(*pair, number) for pair, number in zip(pairs_of(names), heights) if number]))
        for _ in range(250):
            names = tuple("abcd")
            cases.append((names, [(*source.choice([pair, pair[::-1]]), source.randrange(1, 3))
                                  for pair in pairs_of(names) if source.randrange(3)]))
        for names, told in cases:
            found = self.fitting(names, told, 0, 3)
            if not found:
                due = "NoTree"
                self.assertEqual(raised(highest_tree, names, told), ("NoTree",))
                self.assertEqual(raised(only_tree, names, told), ("NoTree",))
            else:
                best = {pair: max(table[pair] for _, table in found) for pair in found[0][1]}
                top = [dated for dated, table in found if table == best]
                together = max(best.values(), default=0) < 3
                due = "highest" if together else "apart"
                highest = highest_tree(told=told, names=list(names))
                self.assertEqual(highest, top[0] if together else None)
                only = found[0][0] if len(found) == 1 else None
                self.assertEqual(only_tree(names, told), only)
                self.assertEqual(only_tree(told=tuple(told[::-1]), names=names), only)
                due = due if only is None else "only"
            seen.add(due)
        self.assertEqual(seen, {"NoTree", "highest", "apart", "only"})

    def test_the_heights_of_all_pairs(self):
        for dated, _ in family(tuple("abcd"), 0, 3)[::5] + [(DATED, {}), (Dated(CHAIN, range(11, 0, -1)), {})]:
            told = pair_heights(dated)
            self.assertEqual(highest_tree(dated.names, told), dated)
            self.assertEqual(only_tree(dated.names, told), dated)

    def test_pairs_of_a_level(self):
        for dated, _ in family(tuple("abcd"), 0, 3)[::5] + [(DATED, {})]:
            for level in (1, 2, 3):
                told = [(one, two, dated(one, two)) for one, two in plain_pairs(dated.rooted, level=level)]
                if level >= 2:
                    self.assertEqual(highest_tree(dated.names, told), dated)
                if level == 3:
                    self.assertEqual(only_tree(dated.names, told), dated)
                elif plain_pairs(dated.rooted, level=level) != plain_pairs(dated.rooted):
                    self.assertIsNone(only_tree(dated.names, told))

    def test_edges(self):
        for names in ([], ["a"]):
            self.assertEqual(highest_tree(names, []), Dated(Rooted(names), []))
            self.assertEqual(only_tree(names, []), Dated(Rooted(names), []))
        self.assertIsNone(highest_tree(["a", "b"], []))
        self.assertIsNone(only_tree(["a", "b"], []))
        self.assertEqual(only_tree(["a", "b"], [("b", "a", 4), ("a", "b", 4)]), Dated(Rooted(["a", "b"]), [4]))
        for call in (highest_tree, only_tree):
            self.assertEqual(raised(call, ["a", "b"], [("a", "b", 4), ("b", "a", 5)]), ("NoTree",))
            # That no tree fits is due also if the names do not hang together.
            self.assertEqual(raised(call, list("abcd"), [("a", "b", 4), ("b", "a", 5)]), ("NoTree",))
            self.assertEqual(raised(call, list("abcd"), [("a", "b", 4), ("b", "c", 4), ("c", "a", 5)]), ("NoTree",))
            self.assertIsNone(call(list("abcd"), [("a", "b", 4), ("b", "c", 5), ("c", "a", 5)]))
        told = [("a", "b", 10 ** 30), ("b", "c", -10 ** 30)]
        self.assertEqual(highest_tree(list("abc"), told), Dated(read_rooted("(a,(b,c))"), [10 ** 30, -10 ** 30]))
        self.assertIs(type(highest_tree(list("abc"), told)), Dated)
        walk = [(one, two, at) for at, (one, two) in enumerate(zip(TWELVE, TWELVE[1:]))]
        self.assertEqual(highest_tree(TWELVE, walk)("a", "l"), 10)
        self.assertEqual(highest_tree(TWELVE, walk)("d", "c"), 2)


class TestPairs(unittest.TestCase):
    def count(self, rooted, level):
        many = [len(rooted.children(ball)) for ball in rooted.balls]
        return [0, len(many), max(0, len(rooted.names) - 1), sum(number * (number - 1) // 2 for number in many)][level]

    def test_plain_pairs(self):
        for rooted in few() + [TREE, CHAIN, Rooted(TWELVE), read_rooted("((a,c),(b,d,(e,f)))")]:
            for level in (1, 2, 3):
                found = plain_pairs(rooted, level=level)
                self.assertEqual(plain_pairs(level=level, rooted=rooted), found)
                self.assertEqual(list(found), sorted(set(found)))
                self.assertEqual(len(found), self.count(rooted, level))
                self.assertGreaterEqual(level_by_hand(rooted, found), level)
                told = []
                for ball in rooted.balls:
                    children = rooted.children(ball)
                    couples = list(itertools.combinations(children, 2))
                    couples = [couples[:1], [row for row in couples if row[0] == children[0]], couples][level - 1]
                    told += [(min(one), min(two)) for one, two in couples]
                self.assertEqual(found, tuple(sorted(told)))
            self.assertEqual(plain_pairs(rooted), plain_pairs(rooted, level=3))

    def test_plain_examples(self):
        self.assertEqual(plain_pairs(TREE, level=1), (("a", "b"), ("a", "c"), ("d", "e")))
        self.assertEqual(plain_pairs(TREE, level=2), (("a", "b"), ("a", "c"), ("a", "d"), ("d", "e"), ("d", "f")))
        self.assertEqual(len(plain_pairs(TREE)), 7)
        self.assertEqual(kinds(plain_pairs(TREE, level=1)), (tuple, ((tuple, (str, str)),) * 3))
        self.assertEqual((plain_pairs(Rooted([])), plain_pairs(Rooted(["a"]), level=1)), ((), ()))

    def test_fewest_pairs(self):
        for rooted in few():
            for level in (1, 2, 3):
                told = next(pairs for pairs in sets_of(pairs_of(rooted.names)) if level_by_hand(rooted, pairs) >= level)
                found = fewest_pairs(rooted, level=level)
                self.assertEqual(found, told)
                self.assertEqual(fewest_pairs(level=level, rooted=rooted), told)
                self.assertEqual(len(found), self.count(rooted, level))
            self.assertEqual(fewest_pairs(rooted), fewest_pairs(rooted, level=3))

    def test_fewest_examples(self):
        tree = read_rooted("((a,b),c,d)")
        self.assertEqual(fewest_pairs(tree, level=1), (("a", "b"), ("a", "c")))
        self.assertEqual(fewest_pairs(tree, level=2), (("a", "b"), ("a", "c"), ("a", "d")))
        self.assertEqual(fewest_pairs(tree), (("a", "b"), ("a", "c"), ("a", "d"), ("c", "d")))
        self.assertEqual(kinds(fewest_pairs(tree, level=1)), (tuple, ((tuple, (str, str)),) * 2))
        self.assertEqual(fewest_pairs(Rooted([]), level=1), ())

    def test_arguments_stay(self):
        pairs, told, names = [["b", "a"], ["d", "e"]], [["b", "a", 2], ["a", "c", 5]], ["c", "b", "a"]

        def answers():
            return [pairs_level(TREE, pairs), other_heights(TREE, pairs), higher_tree(DATED, pairs),
                    lower_tree(DATED, pairs), highest_tree(names, told), only_tree(names, told), plain_pairs(TREE)]

        self.assertEqual(answers(), answers())
        self.assertEqual((pairs, told, names), ([["b", "a"], ["d", "e"]], [["b", "a", 2], ["a", "c", 5]], ["c", "b", "a"]))
        self.assertEqual(DATED, Dated(read_rooted("((a,b),c,(d,e,f))"), [2, 7, -1]))


if __name__ == "__main__":
    unittest.main()
