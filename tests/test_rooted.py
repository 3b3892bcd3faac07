"""Promises [60] to [65] and the interface of fourmet/rooted.py; [20] to [22] for the texts of rooted trees."""

import itertools
import random
import unittest

from fourmet.books import Book
from fourmet.corral import Dated
from fourmet.cutdown import cut_down
from fourmet.rooted import (Rooted, bears_rooted, both_rooted, cut_rooted, from_tree, read_crown, read_rooted,
                            rooted_confusion, rooted_strength, rooted_unlike, to_tree, trio_lists, weakest_trio,
                            write_rooted)
from fourmet.trees import Tree
from fourmet.treetext import read_tree
from helpers import (LETTERS, THIRTEEN, TWELVE, closest, every_tree, kinds, raised, rooted_on, same_closest, some_books)

FIVE = Rooted(list("abcde"), [["d", "c"], ["e", "c", "d"]])
BOOK = Book(list("abcde"), [list("abcd"), list("abcde"), [], list("ace"), list("bd"), list("bcde")])
NUMBERS = (-1, 13, 10 ** 30, True, False, None, "1")
CHAIN = Rooted(TWELVE, [TWELVE[at:] for at in range(1, 11)])
# Trios in their held form with how they could be passed, and what no trio is, with what is due.
FAULTY_TRIOS = [
    ([], ("BadParting",)), ([["a"], ["b"]], ("BadParting",)), ([["a"], ["b"], ["c"], ["d"]], ("BadParting",)),
    ([["a"], ["b"], []], ("BadParting",)), ([[], [], []], ("BadParting",)), ([["a"], ["b"], ["b"]], ("BadParting",)),
    ([["a", "b"], ["b", "c"], ["d"]], ("BadParting",)), ([["a"], ["a"], ["b"], ["c"]], ("BadParting",)),
    ([THIRTEEN[:5], THIRTEEN[5:9], THIRTEEN[9:]], ("BadParting",)), ([["zz"], ["zz"], ["y"]], ("BadParting",)),
    ([["a"], THIRTEEN, ["B"]], ("TooMany", 12)), ([["a"], ["a"], ["b", "b"], ["B"]], ("RepeatedName", "b")),
    ([["a"], ["B", "a", "a"], ["c"]], ("BadName", "B")), ([["a"], ["a"], [None]], ("BadName", None)),
    ([["a"], ["b"], [True]], ("BadName", True)), ([["a"], ["b"], [""]], ("BadName", "")),
]


def subsets(names):
    return [part for size in range(len(names) + 1) for part in itertools.combinations(names, size)]


def trios_of(names, whole):
    """All trios of the names in their held form, by marking each name with a lot or with none."""
    found = set()
    for marks in itertools.product(range(3 if whole else 4), repeat=len(names)):
        lots = tuple(sorted(tuple(name for name, mark in zip(names, marks) if mark == lot) for lot in range(3)))
        if all(lots):
            found.add(lots)
    return sorted(found)


def meets(row, trio):
    return all(set(row) & set(lot) for lot in trio)


def books(most=7):
    for count in range(most + 1):
        names = list(LETTERS[:count])
        yield from [Book(names), Book(names, [names]), Book(names, [names] * 5 + [[], names[1:]]), Book(names, [names] * 12)]
        yield Book(names, [[name for name in names if name != left] for left in names])
        yield from some_books(4, count, seed=61)


def weakest_by_hand(book, crown):
    if crown:
        trios = trios_of(book.names, True)
    else:
        trios = [tuple((name,) for name in three) for three in itertools.combinations(book.names, 3)]
    return min(((sum(meets(row, trio) for row in book.lists), trio) for trio in trios), default=None)


class TestRooted(unittest.TestCase):
    def test_all_rooted_trees_on_a_few_names(self):
        self.assertEqual([len(rooted_on(tuple(LETTERS[:count]))) for count in range(6)], [1, 1, 1, 4, 26, 236])
        for count in range(6):
            for rooted in rooted_on(tuple(LETTERS[:count])):
                names, clusters = rooted.names, rooted.clusters
                self.assertEqual(names, tuple(LETTERS[:count]))
                balls = tuple(sorted(clusters + (names,))) if count >= 2 else ()
                self.assertEqual(rooted.balls, balls)
                for ball in balls:
                    inner = [row for row in clusters if set(row) < set(ball)]
                    told = [row for row in inner if not any(set(row) < set(other) for other in inner)]
                    told += [(name,) for name in ball if not any(name in row for row in inner)]
                    self.assertEqual(rooted.children(ball), tuple(sorted(told)))
                    self.assertEqual(rooted.children(ball=list(ball[::-1])), tuple(sorted(told)))
                    self.assertGreaterEqual(len(told), 2)
                    self.assertEqual(sorted(name for row in told for name in row), list(ball))
                self.assertEqual(rooted.crown, rooted.children(names) if count >= 2 else ())
                self.assertEqual((len(rooted), tuple(rooted), bool(rooted)), (len(clusters), clusters, clusters != ()))

    def test_what_is_passed(self):
        clusters = [["d", "c"], ("c", "e", "d"), ["c", "d"], ["e", "d", "c"]]
        names = ["e", "a", "d", "c", "b"]
        rooted = Rooted(clusters=clusters, names=names)
        self.assertEqual(rooted, FIVE)
        self.assertEqual((rooted.names, rooted.clusters), (tuple("abcde"), (("c", "d"), ("c", "d", "e"))))
        clusters[0].append("e")
        clusters.append(["a", "b"])
        names.append("f")
        self.assertEqual(rooted, FIVE)
        self.assertEqual(clusters[2:], [["c", "d"], ["e", "d", "c"], ["a", "b"]])
        self.assertEqual(Rooted(tuple("ab")).clusters, ())
        self.assertEqual(kinds([rooted.names, rooted.clusters, rooted.balls, rooted.crown]),
                         (list, ((tuple, (str,) * 5), (tuple, ((tuple, (str,) * 2), (tuple, (str,) * 3))),
                                 (tuple, ((tuple, (str,) * 5), (tuple, (str,) * 2), (tuple, (str,) * 3))),
                                 (tuple, ((tuple, (str,)), (tuple, (str,)), (tuple, (str,) * 3))))))

    def test_examples(self):
        self.assertEqual(FIVE.crown, (("a",), ("b",), ("c", "d", "e")))
        self.assertEqual(FIVE.children(["e", "c", "d"]), (("c", "d"), ("e",)))
        self.assertEqual(Rooted(["a", "b"]).balls, (("a", "b"),))
        self.assertEqual(Rooted(["a", "b"]).crown, (("a",), ("b",)))
        self.assertEqual((Rooted(["a"]).balls, Rooted(["a"]).crown, Rooted([]).crown), ((), (), ()))
        self.assertEqual(len(CHAIN), 10)
        self.assertEqual(CHAIN.crown, (("a",), tuple(TWELVE[1:])))

    def test_in_and_equal(self):
        self.assertIs(("c", "d") in FIVE, True)
        for value in (("d", "c"), ["c", "d"], ("a", "b"), (), [], tuple("abcde"), ("a",)):
            self.assertIs(value in FIVE, False)
        same, other = Rooted(list("abcde"), [["c", "d", "e"], ["c", "d"]]), Rooted(list("abcde"), [["c", "d"]])
        self.assertIs(FIVE == same, True)
        self.assertIs(FIVE != same, False)
        for value in (other, Rooted(list("abcdef"), [["c", "d"], ["c", "d", "e"]]), Rooted([]), 3, "a", None, (), ("a",)):
            self.assertIs(FIVE == value, False)
            self.assertIs(FIVE != value, True)

    def test_values_of_different_classes_are_never_equal(self):
        for names in ([], ["a"], ["a", "b"], list("abc")):
            rooted = Rooted(names)
            values = [rooted, Tree(names), Book(names), Dated(rooted, [1] * len(rooted.balls))]
            for one, two in itertools.permutations(range(4), 2):
                self.assertIs(values[one] == values[two], False)
                self.assertIs(values[one] != values[two], True)
            for value in values:
                self.assertIs(value == value, True)

    def test_errors(self):
        for names, due in ((["a", "B"], ("BadName", "B")), (["a", "a"], ("RepeatedName", "a")), (THIRTEEN, ("TooMany", 12)),
                           (["a", "a", None], ("BadName", None))):
            self.assertEqual(raised(Rooted, names, [["C"]]), due)
            self.assertEqual(raised(Rooted, ["a", "b"], [["z"], names]), due)
            self.assertEqual(raised(FIVE.children, names), due)
        five = list("abcde")
        for clusters, due in (
                ([["a"], ["z", "b", "y"], ["x"]], ("UnknownName", "y")), ([["a", "b"], ["b", "c"], ["z"]], ("UnknownName", "z")),
                ([["a", "b"], ["c"], []], ("BadSplit", ("c",))), ([["b", "a"], [], ["c"]], ("BadSplit", ())),
                ([five[::-1]], ("BadSplit", tuple(five))), ([["a", "b"], ["b", "c"], five], ("BadSplit", tuple(five))),
                ([["d", "c"], ["c", "b"], ["b", "a"]], ("Clash", ("a", "b"), ("b", "c"))),
                ([["d", "e"], ["c", "d"], ["a", "b"], ["d", "c", "b"]], ("Clash", ("a", "b"), ("b", "c", "d"))),
                ([["d", "e"], ["c", "d"], ["d", "c", "b"]], ("Clash", ("b", "c", "d"), ("d", "e"))),
                ([["a", "b", "c", "d"], ["b", "c", "d", "e"]], ("Clash", tuple("abcd"), tuple("bcde")))):
            self.assertEqual(raised(Rooted, five, clusters), due)
        self.assertEqual(raised(Rooted, ["a"], [["a"]]), ("BadSplit", ("a",)))
        self.assertEqual(raised(Rooted, [], [[]]), ("BadSplit", ()))
        self.assertEqual(raised(Rooted, ["a", "b"], [["b", "a"]]), ("BadSplit", ("a", "b")))
        # Four of five names are a cluster, though they would be no side of a split.
        self.assertIsNone(raised(Rooted, five, [five[1:]]))
        self.assertIsNone(raised(Rooted, five, [["a", "b"], ["c", "d"]]))
        self.assertEqual(raised(FIVE.children, ["z", "a", "y"]), ("UnknownName", "y"))
        for ball in ([], ["a"], ["c", "e"], ["c", "d", "e", "b"]):
            self.assertEqual(raised(FIVE.children, ball), ("BadPlaces",))
        self.assertEqual(raised(Rooted(["a"]).children, ["a"]), ("BadPlaces",))
        self.assertEqual(raised(Rooted([]).children, []), ("BadPlaces",))

    def test_clashes_of_all_pairs_of_clusters(self):
        rows = [row for row in subsets(tuple("abcde")) if 2 <= len(row) <= 4]
        for one, two in itertools.product(rows, repeat=2):
            both = set(one) & set(two)
            due = ("Clash", *sorted([one, two])) if both and both not in (set(one), set(two)) else None
            self.assertEqual(raised(Rooted, list("abcde"), [one, two]), due)


class TestPlanting(unittest.TestCase):
    def test_planting_and_taking_the_root_away(self):
        for count in range(6):
            for rooted in rooted_on(tuple(LETTERS[1:count + 1])):
                for root in ("a", "c0", "z"):
                    tree = to_tree(rooted, root)
                    self.assertEqual(tree, Tree([root, *rooted.names], rooted.clusters))
                    self.assertEqual(to_tree(root=root, rooted=rooted), tree)
                    self.assertEqual(from_tree(tree, root), rooted)
        for tree in [tree for count in range(7) for tree in every_tree(count)]:
            for root in tree.names:
                rooted = from_tree(tree, root)
                self.assertEqual(from_tree(root=root, tree=tree), rooted)
                self.assertEqual(to_tree(rooted, root), tree)
                self.assertEqual(len(rooted), len(tree))
                for row in rooted:
                    self.assertNotIn(root, row)

    def test_eleven_and_twelve_names(self):
        eleven = Rooted(TWELVE[1:], [TWELVE[at:] for at in range(2, 11)])
        self.assertEqual(from_tree(to_tree(eleven, "a"), "a"), eleven)
        self.assertEqual(len(to_tree(eleven, "z")), 9)
        self.assertEqual(raised(to_tree, CHAIN, "z"), ("TooMany", 12))
        self.assertEqual(raised(to_tree, CHAIN, "b"), ("RepeatedName", "b"))

    def test_errors(self):
        for value in ("A", "", 3, True, None):
            self.assertEqual(raised(to_tree, CHAIN, value), ("BadName", value))
            self.assertEqual(raised(from_tree, Tree(["a"]), value), ("BadName", value))
        self.assertEqual(raised(to_tree, FIVE, "c"), ("RepeatedName", "c"))
        self.assertEqual(raised(from_tree, Tree(list("abcd")), "e"), ("UnknownName", "e"))
        self.assertEqual(raised(from_tree, Tree([]), "a"), ("UnknownName", "a"))
        self.assertEqual(to_tree(Rooted([]), "a"), Tree(["a"]))
        self.assertEqual(from_tree(Tree(["a"]), "a"), Rooted([]))


class TestTexts(unittest.TestCase):
    def text_by_hand(self, rooted, row):
        if len(row) == 1:
            return row[0]
        return "(" + ",".join(self.text_by_hand(rooted, child) for child in rooted.children(row)) + ")"

    def test_told_texts(self):
        for count in range(2, 6):
            for rooted in rooted_on(tuple(LETTERS[:count])):
                text = self.text_by_hand(rooted, rooted.names)
                self.assertEqual(write_rooted(rooted), text)
                self.assertEqual(write_rooted(rooted=rooted), text)
                self.assertEqual(read_rooted(text), rooted)
                self.assertEqual(read_rooted(text=text), rooted)

    def test_examples(self):
        for text in ("()", "(a)", "(a,b)", "(a,b,(c,d))", "((a,b),(c,d))", "((a,b),c,(d,(e,f)))", "(a,(b,c))", "((a,c),b)"):
            self.assertEqual(write_rooted(read_rooted(text)), text)
        self.assertNotEqual(read_rooted("((a,b),(c,d))"), read_rooted("(a,b,(c,d))"))
        self.assertEqual(read_rooted("((d,c),(b,a))"), Rooted(list("abcd"), [["a", "b"], ["c", "d"]]))
        self.assertEqual(write_rooted(read_rooted("((d,(c,e)),(b,a))")), "((a,b),((c,e),d))")
        self.assertEqual(read_rooted("(b,(c,a))").clusters, (("a", "c"),))
        self.assertEqual((write_rooted(Rooted([])), write_rooted(Rooted(["a"]))), ("()", "(a)"))
        self.assertEqual(read_rooted(write_rooted(CHAIN)), CHAIN)
        self.assertIs(type(write_rooted(FIVE)), str)

    def test_the_errors_are_those_of_tree_texts(self):
        good = "((a1,b),(c,d),e,(f,(g,h)))"
        texts = [good[:at] for at in range(len(good) + 1)]
        texts += [good[:at] + sign + good[at:] for at in range(len(good) + 1) for sign in "(),aZ \n1"]
        texts += [good[:at] + good[at + 1:] for at in range(len(good))]
        texts += ["((a,b))", "(a)(b)", "(())", "((a),b)", "(a,a)", "(a,(b,a),A)", "(" * 400, "(" * 401, "a" * 401, "",
                  "(" + ",".join(THIRTEEN) + ")", "(" + ",".join(THIRTEEN + ["a"]) + ")", "(" + ",".join(TWELVE) + ")",
                  "(" + ",".join(["abcdefgh"] * 50) + ")", "(abcdefghi)", "(a,b", "(a,,b)", "(a;b)"]
        seen = set()
        for text in texts:
            due = raised(read_tree, text)
            seen.add(due and due[0])
            self.assertEqual(raised(read_rooted, text), due)
        self.assertEqual(seen, {None, "BadText", "RepeatedName", "TooMany"})


class TestCutting(unittest.TestCase):
    def test_all_cuts(self):
        for rooted in [rooted for count in range(5) for rooted in rooted_on(tuple(LETTERS[:count]))] + list(
                rooted_on(tuple("abcde"))[::7]):
            for names in subsets(rooted.names):
                told = cut_rooted(rooted, names)
                self.assertEqual(told.names, names)
                self.assertTrue(all(closest(told, three) == closest(rooted, three)
                                    for three in itertools.combinations(names, 3)))
                self.assertEqual(cut_rooted(names=list(names[::-1]), rooted=rooted), told)
                self.assertEqual(to_tree(told, "r"), cut_down(to_tree(rooted, "r"), [*names, "r"]))

    def test_edges(self):
        for rooted in (FIVE, CHAIN, Rooted([]), Rooted(["a"]), Rooted(["a", "b"])):
            self.assertEqual(cut_rooted(rooted, []), Rooted([]))
            self.assertEqual(cut_rooted(rooted, rooted.names), rooted)
        self.assertEqual(cut_rooted(FIVE, list("cde")), Rooted(list("cde"), [["c", "d"]]))
        self.assertEqual(raised(cut_rooted, FIVE, ["z", "a", "y"]), ("UnknownName", "y"))
        self.assertEqual(raised(cut_rooted, FIVE, ["z", "a", "a"]), ("RepeatedName", "a"))
        self.assertEqual(raised(cut_rooted, FIVE, ["z", 3]), ("BadName", 3))

    def test_unlike_lists(self):
        trees = rooted_on(BOOK.names)[::9]
        for one, two in itertools.product(trees, repeat=2):
            told = tuple(at for at, row in enumerate(BOOK.lists) if not same_closest(one, two, row))
            self.assertEqual(rooted_unlike(BOOK, one, two), told)
            self.assertEqual(rooted_unlike(two=two, one=one, book=BOOK), told)
        self.assertEqual(rooted_unlike(BOOK, FIVE, Rooted(list("abcde"))), (0, 1, 3, 5))
        self.assertEqual(kinds(rooted_unlike(BOOK, FIVE, Rooted(list("abcde")))), (tuple, (int,) * 4))
        other = Rooted(list("abcdf"))
        for book, one, two in ((BOOK, FIVE, other), (BOOK, other, FIVE), (Book(list("abcd")), FIVE, FIVE),
                               (BOOK, other, other), (Book([]), FIVE, Rooted([]))):
            self.assertEqual(raised(rooted_unlike, book, one, two), ("UnlikeNames",))
        self.assertEqual(rooted_unlike(Book(TWELVE, [TWELVE, []]), CHAIN, Rooted(TWELVE)), (0,))


class TestTrios(unittest.TestCase):
    def test_lists_that_meet(self):
        for book in (BOOK, Book(list("abcd"), [list("abcd"), list("bcd"), []]), Book(list("abc"))):
            for trio in trios_of(book.names, False):
                told = tuple(at for at, row in enumerate(book.lists) if meets(row, trio))
                self.assertEqual(trio_lists(book, trio), told)
                self.assertEqual(trio_lists(lots=[list(lot[::-1]) for lot in trio[::-1]], book=book), told)
        self.assertEqual(trio_lists(Book(TWELVE, [TWELVE, TWELVE[3:], []]), [["c"], ["a"], ["b"]]), (0,))
        self.assertEqual(kinds(trio_lists(BOOK, (("a",), ("b",), ("c",)))), (tuple, (int, int)))

    def test_both_rooted_trees(self):
        for names in (tuple("abc"), tuple("abcd"), tuple("abcde")):
            for trio in trios_of(names, False):
                first, second = both_rooted(names, trio)
                lots = [set(lot) for lot in trio]
                for tree, extra in ((first, lots[0] | lots[1]), (second, lots[0] | lots[2])):
                    told = [lot for lot in lots if len(lot) > 1] + [extra]
                    if set().union(*lots) != set(names):
                        told.append(set().union(*lots))
                    self.assertEqual(tree.clusters, tuple(sorted(tuple(sorted(row)) for row in told)))
                    self.assertEqual(tree.names, names)
                self.assertEqual(both_rooted(lots=[lot[::-1] for lot in trio[::-1]], names=list(names)), (first, second))
                self.assertIs(type(both_rooted(names, trio)), tuple)
                for row in subsets(names):
                    self.assertEqual(same_closest(first, second, row), not meets(row, trio))
                if sum(map(len, trio)) == len(names):
                    self.assertNotEqual(first.crown, second.crown)
        first, second = both_rooted(TWELVE, [TWELVE[:4], TWELVE[4:8], TWELVE[8:]])
        self.assertEqual(len(first.crown), 2)

    def test_wrong_trios(self):
        for lots, due in FAULTY_TRIOS:
            self.assertEqual(raised(trio_lists, BOOK, lots), due)
            self.assertEqual(raised(trio_lists, Book([]), lots), due)
            self.assertEqual(raised(both_rooted, list("abcde"), lots), due)
            self.assertEqual(raised(both_rooted, ["b", "A", "b"], lots), ("BadName", "A"))
        # The lots count in the order passed.
        for lots, name in (([["z", "y"], ["x"], ["a"]], "y"), ([["a"], ["z", "b"], ["x", "w"]], "z"),
                           ([["b"], ["a"], ["x", "w", "c"]], "w"), ([["z"], ["f"], ["g"]], "z")):
            self.assertEqual(raised(trio_lists, BOOK, lots), ("UnknownName", name))
            self.assertEqual(raised(both_rooted, list("abcde"), lots), ("UnknownName", name))
            self.assertEqual(raised(both_rooted, [], lots), ("UnknownName", min(lots[0])))


class TestStrengths(unittest.TestCase):
    def test_books(self):
        for book in books():
            for crown in (False, True):
                told = weakest_by_hand(book, crown)
                self.assertEqual(weakest_trio(book, crown=crown), told)
                self.assertEqual(weakest_trio(crown=crown, book=book), told)
                number = told and told[0]
                self.assertEqual(rooted_strength(book, crown=crown), number)
                self.assertEqual(rooted_strength(crown=crown, book=book), number)
            self.assertEqual(weakest_trio(book), weakest_trio(book, crown=False))
            self.assertEqual(rooted_strength(book), rooted_strength(book, crown=False))

    def test_the_least_numbers_of_lists_that_tell_two_trees_apart(self):
        for book in some_books(8, 4, seed=62) + some_books(4, 3, seed=63):
            trees = rooted_on(book.names)
            rows = [(one.crown != two.crown, sum(not same_closest(one, two, row) for row in book.lists))
                    for one, two in itertools.combinations(trees, 2)]
            self.assertEqual(rooted_strength(book), min(number for _, number in rows))
            self.assertEqual(rooted_strength(book, crown=True), min(number for crowns, number in rows if crowns))

    def test_examples(self):
        book = Book(list("abcd"), [list("abc"), list("abd"), list("acd")])
        self.assertEqual((rooted_strength(book), rooted_strength(book, crown=True)), (0, 1))
        self.assertEqual(weakest_trio(book), (0, (("b",), ("c",), ("d",))))
        self.assertEqual(weakest_trio(book, crown=True), (1, (("a", "b"), ("c",), ("d",))))
        self.assertEqual(kinds(weakest_trio(book)), (tuple, (int, (tuple, ((tuple, (str,)),) * 3))))
        for count in range(3):
            for crown in (False, True):
                self.assertIsNone(weakest_trio(Book(LETTERS[:count], [LETTERS[:count]]), crown=crown))
                self.assertIsNone(rooted_strength(Book(LETTERS[:count]), crown=crown))
        self.assertEqual(weakest_trio(Book(list("abc"))), (0, (("a",), ("b",), ("c",))))

    def test_bounds(self):
        seven, eight = Book(LETTERS[:7], [LETTERS[:7]]), Book(LETTERS[:8], [LETTERS[:8]])
        for call in (weakest_trio, rooted_strength, bears_rooted, rooted_confusion):
            self.assertIsNone(raised(call, seven, crown=True))
            self.assertEqual(raised(call, eight, crown=True), ("TooMany", 7))
            self.assertEqual(raised(call, Book(TWELVE), crown=True), ("TooMany", 7))
            self.assertIsNone(raised(call, eight))
            self.assertIsNone(raised(call, Book(TWELVE), crown=False))
        self.assertEqual(weakest_trio(Book(TWELVE, [TWELVE[:3], TWELVE[1:]])), (0, (("a",), ("b",), ("d",))))


class TestReadCrown(unittest.TestCase):
    def by_hand(self, one, two):
        rows = [row for row in one.crown if not any(set(row) <= set(other) for other in two.crown)]
        other = two
        if not rows:
            rows = [row for row in two.crown if not any(set(row) <= set(child) for child in one.crown)]
            other = one
        p = set(rows[0])
        q = set(next(child for child in other.crown if p & set(child)))
        return tuple(sorted(tuple(sorted(lot)) for lot in (p & q, p - q, set(one.names) - p)))

    def check(self, one, two):
        if one.crown == two.crown:
            self.assertEqual(raised(read_crown, one, two), ("SameTree",))
            return
        trio = read_crown(one, two)
        self.assertEqual(trio, self.by_hand(one, two))
        self.assertEqual(read_crown(two=two, one=one), trio)
        self.assertIn(trio, trios_of(one.names, True))
        for row in subsets(one.names):
            if meets(row, trio):
                self.assertNotEqual(cut_rooted(one, row), cut_rooted(two, row))

    def test_all_pairs(self):
        for count in range(5):
            for one, two in itertools.product(rooted_on(tuple(LETTERS[:count])), repeat=2):
                self.check(one, two)
        source = random.Random(8)
        trees = rooted_on(tuple("abcde"))
        for _ in range(300):
            self.check(source.choice(trees), source.choice(trees))

    def test_examples(self):
        one, two = read_rooted("((a,b),(c,d))"), read_rooted("((a,b,c),d)")
        self.assertEqual(read_crown(one, two), (("a", "b"), ("c",), ("d",)))
        self.assertEqual(read_crown(read_rooted("(a,b,c)"), read_rooted("((a,b),c)")), (("a",), ("b",), ("c",)))
        self.assertEqual(kinds(read_crown(one, two)), (tuple, ((tuple, (str, str)), (tuple, (str,)), (tuple, (str,)))))
        self.assertEqual(raised(read_crown, read_rooted("((a,b,c),d)"), read_rooted("((a,(b,c)),d)")), ("SameTree",))

    def test_errors(self):
        self.assertEqual(raised(read_crown, FIVE, Rooted(list("abcd"))), ("UnlikeNames",))
        self.assertEqual(raised(read_crown, Rooted([]), Rooted(["a"])), ("UnlikeNames",))
        self.assertEqual(raised(read_crown, Rooted([]), Rooted([])), ("SameTree",))
        self.assertEqual(raised(read_crown, FIVE, FIVE), ("SameTree",))
        self.assertEqual(read_crown(CHAIN, Rooted(TWELVE)), ((TWELVE[0],), (TWELVE[1],), tuple(TWELVE[2:])))


class TestBearing(unittest.TestCase):
    def confusion_by_hand(self, book, lost, lying, crown):
        found = weakest_by_hand(book, crown)
        if found is None or found[0] >= lost + 2 * lying + 1:
            return None
        first, second = both_rooted(book.names, found[1])
        using = [at for at, row in enumerate(book.lists) if meets(row, found[1])]
        gone, rest = using[:lost], using[lost:]
        trees = []
        for at, row in enumerate(book.lists):
            if at not in gone:
                trees.append(cut_rooted(second if at in rest[len(rest) // 2:] else first, row))
        return tuple(gone), first, second, tuple(trees)

    def test_books_and_numbers(self):
        for book in books():
            numbers = (0, 1, 2, 5, 12) if len(book.names) <= 5 else (0, 1, 4)
            for lost, lying, crown in itertools.product(numbers, numbers, (False, True)):
                told = self.confusion_by_hand(book, lost, lying, crown)
                self.assertEqual(rooted_confusion(book, lost=lost, lying=lying, crown=crown), told)
                self.assertEqual(rooted_confusion(crown=crown, lying=lying, lost=lost, book=book), told)
                self.assertIs(bears_rooted(book, lost=lost, lying=lying, crown=crown), told is None)
                self.assertIs(bears_rooted(crown=crown, lying=lying, lost=lost, book=book), told is None)

    def test_a_confusion_is_one(self):
        for book in books(6):
            for lost, lying, crown in itertools.product((0, 1, 3), (0, 1, 2), (False, True)):
                found = rooted_confusion(book, lost=lost, lying=lying, crown=crown)
                if found is None:
                    continue
                indexes, first, second, trees = found
                self.assertLessEqual(len(indexes), lost)
                left = [row for at, row in enumerate(book.lists) if at not in indexes]
                self.assertEqual([tree.names for tree in trees], left)
                if crown:
                    self.assertNotEqual(first.crown, second.crown)
                self.assertNotEqual(first, second)
                for tree in (first, second):
                    wrong = [row for told, row in zip(trees, left) if not same_closest(told, tree, row)]
                    self.assertLessEqual(len(wrong), lying)

    def test_defaults(self):
        for book in books(5):
            self.assertEqual(rooted_confusion(book), rooted_confusion(book, lost=0, lying=0, crown=False))
            self.assertEqual(rooted_confusion(book, lost=2), rooted_confusion(book, lost=2, lying=0, crown=False))
            self.assertEqual(rooted_confusion(book, lying=1), rooted_confusion(book, lost=0, lying=1, crown=False))
            self.assertEqual(rooted_confusion(book, crown=True), rooted_confusion(book, lost=0, lying=0, crown=True))
            for lost in (0, 1, 12):
                self.assertIs(bears_rooted(book, lost=lost), bears_rooted(book, lost=lost, lying=0, crown=False))
                self.assertIs(bears_rooted(book, lying=lost), bears_rooted(book, lost=0, lying=lost, crown=False))
            self.assertIs(bears_rooted(book, crown=True), bears_rooted(book, lost=0, lying=0, crown=True))

    def test_bearing_by_all_that_can_be_told(self):
        """[65] itself for books of three names: no two trees fit what is told when lists are lost and lists lie."""
        trees = rooted_on(tuple("abc"))
        for many in range(5):
            book = Book(list("abc"), [list("abc")] * many + [["a", "b"]])
            for lost, lying in itertools.product(range(3), range(3)):
                told = True
                for tellings in itertools.product(trees, repeat=max(0, many - lost)):
                    told = told and sum(sum(tree != other for other in tellings) <= lying for tree in trees) <= 1
                self.assertIs(bears_rooted(book, lost=lost, lying=lying), told)

    def test_examples(self):
        book = Book(list("abc"), [list("abc"), ["a", "b"], list("abc"), list("abc"), list("abc")])
        first, second = Rooted(list("abc"), [["a", "b"]]), Rooted(list("abc"), [["a", "c"]])
        rest = Rooted(["a", "b"])
        self.assertEqual(rooted_confusion(book, lost=1, lying=2), ((0,), first, second, (rest, first, second, second)))
        self.assertIsNone(rooted_confusion(book, lost=1, lying=1))
        self.assertEqual(rooted_confusion(book, lost=12), ((0, 2, 3, 4), first, second, (rest,)))
        self.assertEqual(kinds(rooted_confusion(book, lost=1, lying=2)),
                         (tuple, ((tuple, (int,)), Rooted, Rooted, (tuple, (Rooted,) * 4))))
        self.assertEqual(rooted_confusion(Book(list("abc"))), ((), first, second, ()))
        for count in range(3):
            self.assertIsNone(rooted_confusion(Book(LETTERS[:count]), lost=12, lying=12))
            self.assertIs(bears_rooted(Book(LETTERS[:count]), lost=12, lying=12, crown=True), True)

    def test_errors(self):
        for call in (bears_rooted, rooted_confusion):
            for value in NUMBERS:
                for book in (BOOK, Book([]), Book(TWELVE)):
                    self.assertEqual(raised(call, book, lost=value, crown=True), ("BadNumber", value))
                    self.assertEqual(raised(call, book, lying=value), ("BadNumber", value))
                    self.assertEqual(raised(call, book, lying=-7, lost=value), ("BadNumber", value))

    def test_books_and_trees_stay(self):
        book, one = Book(BOOK.names, BOOK.lists), Rooted(FIVE.names, FIVE.clusters)
        two = Rooted(list("abcde"), [["a", "b"]])

        def answers():
            return [write_rooted(one), to_tree(one, "z"), cut_rooted(one, ["a", "c"]), rooted_unlike(book, one, two),
                    weakest_trio(book), read_crown(one, two), rooted_confusion(book, lost=2), one.children(list("cde"))]

        self.assertEqual(answers(), answers())
        self.assertEqual((book, one), (BOOK, FIVE))


if __name__ == "__main__":
    unittest.main()
