"""Promises [39], [40] and the interface of fourmet/readoff.py."""

import functools
import itertools
import unittest

from fourmet.books import Book
from fourmet.readoff import read_off, read_steps, read_unmet, separates
from fourmet.trees import Tree
from fourmet.treetext import read_tree
from helpers import (FAULTY, LETTERS, MESSY, SEVEN, TWELVE, caterpillar, every_tree, in_each, kinds, meetings, middles,
                     partings_of, raised, same_sayings, some_books, statement, turned_partings)


def says_unlike(parting, one, two):
    """Whether two trees say unlike things on every pick of a parting."""
    fours = [tuple(sorted(pick)) for pick in itertools.product(*parting)]
    return all(statement(one, four) != statement(two, four) for four in fours)


@functools.lru_cache(None)
def middles_of(names, splits):
    """The places of the tree with these names and splits."""
    return middles(Tree(names, splits))


def places_of(tree):
    return middles_of(tree.names, tree.splits)


def hanging(place):
    return sorted(way[0] for way in place if len(way) == 1)


def struck(tree, name):
    """A tree without one of its names, from both sides of its splits."""
    names = [other for other in tree.names if other != name]
    sides = [[other for other in side if other != name] for side in tree.splits]
    return Tree(names, [side for side in sides if len(side) >= 2 and len(names) - len(side) >= 2])


def read_by_hand(one, two):
    """The parting that is read off two unlike trees and the steps, by the document's words in a loop."""
    mates, steps = [], []
    while True:
        near, far = (one, two) if one.splits else (two, one)
        groups = [hanging(place) for place in places_of(near) if sum(len(way) > 1 for way in place) == 1]
        x, y = min(groups)[:2]
        if not any(x in hanging(place) and y in hanging(place) for place in places_of(far)):
            found = []
            for place in places_of(far):
                [way_x], [way_y] = [[way for way in place if name in way] for name in (x, y)]
                if way_x != way_y:
                    found.append((len(way_x), set(far.names) - set(way_x) - set(way_y)))
            lot = min(found, key=lambda pair: pair[0])[1]
            steps.append(("apart", x, y))
            break
        one, two = struck(one, y), struck(two, y)
        if one == two:
            [place] = [place for place in places_of(one) if x in hanging(place)]
            lot = set(min(way for way in place if way != (x,)))
            steps.append(("pair", x, y))
            break
        steps.append(("twins", x, y))
        mates.append((x, y))
    names = set(near.names)
    lots = [{x}, {y}, lot, names - lot - {x, y}]
    for x, y in reversed(mates):
        lots = [lot | {y} if x in lot else lot for lot in lots]
    return tuple(sorted(tuple(sorted(lot)) for lot in lots)), tuple(steps)


def large_trees():
    """Trees of twelve names: full ones, a star, and ones that differ deep inside."""
    full = caterpillar(12)
    yield from [Tree(TWELVE), full, full.without_split(["k", "l"]), full.exchanged("a", "l"), full.exchanged("k", "j")]
    yield from [full.without_split(full.splits[at]) for at in (0, 3, 5)]
    yield read_tree("(a,b,c,((d,e),f),(g,h,(i,(j,k)),l))")
    yield read_tree("(a,b,c,((d,e),f),(g,h,(i,(j,l)),k))")
    yield read_tree("(((a,b),c),((d,e),f),((g,h),i),((j,k),l))")
    yield read_tree("(((a,b),c),((d,f),e),((g,h),i),((j,k),l))")
    yield read_tree("((a,b,c,d),(e,f,g,h),(i,j,k,l))")
    yield read_tree("((a,b,c,l),(e,f,g,h),(i,j,k,d))")
    yield read_tree("((a,b,c,d,e,f),(g,h,i,j,k,l))")
    yield read_tree("(a,b,c,d,e,f,g,h,i,j,(k,l))")


def unlike_pairs():
    """Pairs of unlike trees: all of four and five names, some of six, many of twelve."""
    for count in (4, 5):
        yield from itertools.permutations(every_tree(count), 2)
    yield from itertools.permutations(every_tree(6)[::7], 2)
    yield from itertools.permutations(large_trees(), 2)


class TestSeparates(unittest.TestCase):
    def test_all_trees_and_partings(self):
        found = set()
        for count in (4, 5):
            for one, two in itertools.product(every_tree(count), repeat=2):
                for parting in partings_of(one.names):
                    told = says_unlike(parting, one, two)
                    self.assertIs(separates(parting, one, two), told)
                    found.add(told)
        self.assertEqual(found, {True, False})
        for one, two in itertools.permutations(every_tree(6)[::23], 2):
            for parting in partings_of(one.names):
                self.assertIs(separates(two=two, one=one, parting=parting[::-1]), says_unlike(parting, one, two))

    def test_a_statement_and_none_are_unlike(self):
        parting = (("a",), ("b",), ("c",), ("d",))
        star, one, two = every_tree(4)[:3]
        self.assertIs(separates(parting, star, one), True)
        self.assertIs(separates(parting, one, two), True)
        self.assertIs(separates(parting, star, star), False)
        self.assertIs(separates(parting, one, one), False)

    def test_no_list_that_meets_it_has_them_alike(self):
        for one, two in itertools.permutations(every_tree(5)[::2], 2):
            for parting in partings_of(one.names):
                if separates(parting, one, two):
                    for row in itertools.chain(*[itertools.combinations("abcde", size) for size in range(6)]):
                        if in_each(row, parting):
                            self.assertFalse(same_sayings(one, two, row))

    def test_orders(self):
        one = Tree(list("abcdefg"), [["b", "e"]])
        for lots in turned_partings((("a", "c"), ("b",), ("d", "f", "g"), ("e",))):
            self.assertIs(separates(lots, one, Tree(list("abcdefg"))), True)
        for lots in itertools.permutations(MESSY):
            self.assertIs(separates(list(lots), one, one), False)

    def test_errors(self):
        five, four = Tree(list("abcde")), Tree(list("abcd"))
        for lots, told in FAULTY:
            self.assertEqual(raised(separates, lots, five, four), told)
        self.assertEqual(raised(separates, SEVEN, five, four), ("UnlikeNames",))
        self.assertEqual(raised(separates, [["a"], ["b"], ["c"], ["d"]], four, five), ("UnlikeNames",))
        self.assertEqual(raised(separates, [["a"], ["b"], ["c"], ["d"]], five, five), ("BadParting",))
        self.assertEqual(raised(separates, [["a"], ["b"], ["c"], ["z"]], four, four), ("BadParting",))
        self.assertEqual(raised(separates, SEVEN, five, five), ("BadParting",))
        self.assertEqual(raised(separates, SEVEN, Tree([]), Tree([])), ("BadParting",))


class TestReading(unittest.TestCase):
    def test_every_pair(self):
        ends = {}
        for one, two in unlike_pairs():
            lots, steps = read_by_hand(one, two)
            self.assertEqual(read_off(one, two), lots)
            self.assertEqual(read_steps(one, two), steps)
            self.assertTrue(says_unlike(lots, one, two))
            self.assertEqual(sorted(sum(lots, ())), list(one.names))
            self.assertEqual([len(step) for step in steps], [3] * len(steps))
            self.assertLessEqual(len(steps), len(one.names) - 3)
            self.assertEqual({step[0] for step in steps[:-1]} - {"twins"}, set())
            ends[steps[-1][0]] = ends.get(steps[-1][0], set()) | {min(len(steps), 4)}
        # Readings of both ends, behind none, one, two and more "twins" steps.
        self.assertEqual(ends, {"apart": {1, 2, 3, 4}, "pair": {1, 2, 3, 4}})

    def test_all_pairs_of_six_names_with_a_few(self):
        trees = every_tree(6)
        for one, two in itertools.product(trees[::59], trees):
            if one != two:
                self.assertEqual((read_off(one, two), read_steps(one, two)), read_by_hand(one, two))
                self.assertEqual((read_off(two, one), read_steps(two, one)), read_by_hand(two, one))

    def test_the_example_of_the_document(self):
        one, two = read_tree("(a,b,(c,(d,e)))"), read_tree("(a,b,((c,e),d))")
        self.assertEqual(read_off(one, two), (("a", "b"), ("c",), ("d",), ("e",)))
        self.assertEqual(read_steps(one, two), (("twins", "a", "b"), ("apart", "a", "c")))
        self.assertEqual(read_off(two=two, one=one), read_off(one, two))
        self.assertEqual(read_steps(two=two, one=one), read_steps(one, two))
        self.assertEqual(kinds(read_steps(one, two)), (tuple, ((tuple, (str,) * 3),) * 2))
        self.assertEqual(kinds(read_off(one, two)), (tuple, ((tuple, (str, str)),) + ((tuple, (str,)),) * 3))

    def test_four_names(self):
        star, one, two = Tree(list("abcd")), Tree(list("abcd"), [["c", "d"]]), Tree(list("abcd"), [["b", "d"]])
        told = (("a",), ("b",), ("c",), ("d",))
        for first, second in itertools.permutations([star, one, two], 2):
            self.assertEqual(read_off(first, second), told)
        self.assertEqual(read_steps(star, one), (("pair", "a", "b"),))
        self.assertEqual(read_steps(one, star), (("pair", "a", "b"),))
        self.assertEqual(read_steps(two, star), (("pair", "a", "c"),))
        self.assertEqual(read_steps(one, two), (("apart", "a", "b"),))
        self.assertEqual(read_steps(two, one), (("apart", "a", "c"),))

    def test_the_source_is_chosen_anew(self):
        """Without b the first tree is a star, so from there on the second one gives the names."""
        one, two = read_tree("((a,b),c,d,e,f)"), read_tree("((a,b),(c,d),e,f)")
        told = (("twins", "a", "b"), ("twins", "a", "e"), ("pair", "a", "f"))
        self.assertEqual((read_steps(one, two), read_steps(two, one)), (told, told))
        self.assertEqual(read_off(one, two), (("a", "b", "e"), ("c",), ("d",), ("f",)))
        one, two = read_tree("((a,b),c,d,e)"), read_tree("((a,b),c,(d,e))")
        self.assertEqual(read_steps(one, two), (("twins", "a", "b"), ("pair", "a", "c")))
        self.assertEqual(read_off(one, two), (("a", "b"), ("c",), ("d",), ("e",)))

    def test_the_order_of_the_trees_stays(self):
        """The first tree gives the names as long as it has a split."""
        one, two = read_tree("((a,b),(c,e),d,f)"), read_tree("((a,b),(c,d),e,f)")
        self.assertEqual(read_steps(one, two), (("twins", "a", "b"), ("apart", "a", "d")))
        self.assertEqual(read_steps(two, one), (("twins", "a", "b"), ("apart", "a", "e")))

    def test_the_first_way_lot_is_from_x(self):
        one, two = read_tree("((a,b),c,d,e)"), read_tree("(a,c,(d,(b,e)))")
        self.assertEqual(read_off(one, two), (("a",), ("b",), ("c",), ("d", "e")))
        self.assertEqual(read_steps(one, two), (("apart", "a", "b"),))

    def test_errors(self):
        five, four = Tree(list("abcde")), Tree(list("abcd"))
        for call in (read_off, read_steps):
            self.assertEqual(raised(call, five, four), ("UnlikeNames",))
            self.assertEqual(raised(call, Tree(list("abce")), four), ("UnlikeNames",))
            self.assertEqual(raised(call, five, Tree([])), ("UnlikeNames",))
            self.assertEqual(raised(call, five, Tree(list("edcba"))), ("SameTree",))
            for count in range(4):
                tree = Tree(list(LETTERS[:count]))
                self.assertEqual(raised(call, tree, tree), ("SameTree",))

    def test_trees_stay_and_answers_stay(self):
        one, two = read_tree("(a,b,(c,(d,e)))"), read_tree("(a,b,((c,e),d))")
        for _ in range(2):
            self.assertEqual(read_off(one, two), (("a", "b"), ("c",), ("d",), ("e",)))
            self.assertEqual(read_steps(one, two), (("twins", "a", "b"), ("apart", "a", "c")))
        self.assertEqual((one, two), (read_tree("(a,b,(c,(d,e)))"), read_tree("(a,b,((c,e),d))")))


class TestReadUnmet(unittest.TestCase):
    def test_books_on_which_trees_are_alike(self):
        seen = 0
        for count in (4, 5, 6):
            trees = every_tree(count) if count < 6 else every_tree(6)[::9]
            for book in some_books(6, count, most=4, seed=5):
                for one, two in itertools.permutations(trees, 2):
                    apart = [at for at, names in enumerate(book.lists) if not same_sayings(one, two, names)]
                    if apart:
                        self.assertEqual(raised(read_unmet, book, one, two), ("NotAlike", apart[0]))
                    else:
                        parting = read_unmet(book, one, two)
                        self.assertEqual(parting, read_off(one, two))
                        self.assertEqual(meetings(book, parting), ())
                        seen += 1
        self.assertGreater(seen, 100)

    def test_twelve_names(self):
        for one, two in itertools.permutations(list(large_trees())[:6], 2):
            parting = read_unmet(Book(TWELVE, [TWELVE[:3]]), one, two)
            self.assertEqual(parting, read_by_hand(one, two)[0])
            self.assertEqual(read_unmet(two=two, one=one, book=Book(TWELVE)), parting)
            pick = [lot[0] for lot in parting]
            self.assertEqual(raised(read_unmet, Book(TWELVE, [[], TWELVE[:2], pick, TWELVE]), one, two), ("NotAlike", 2))

    def test_errors(self):
        book = Book(list("abcde"), [list("abcde")])
        five, other, four = Tree(list("abcde")), Tree(list("abcde"), [["d", "e"]]), Tree(list("abcd"))
        self.assertEqual(raised(read_unmet, book, five, four), ("UnlikeNames",))
        self.assertEqual(raised(read_unmet, book, four, five), ("UnlikeNames",))
        self.assertEqual(raised(read_unmet, book, four, four), ("UnlikeNames",))
        self.assertEqual(raised(read_unmet, Book(list("abcdf")), five, other), ("UnlikeNames",))
        self.assertEqual(raised(read_unmet, Book([]), five, five), ("UnlikeNames",))
        self.assertEqual(raised(read_unmet, book, five, five), ("SameTree",))
        self.assertEqual(raised(read_unmet, Book(list("abcde")), other, other), ("SameTree",))
        self.assertEqual(raised(read_unmet, Book([]), Tree([]), Tree([])), ("SameTree",))
        self.assertEqual(raised(read_unmet, book, five, other), ("NotAlike", 0))


if __name__ == "__main__":
    unittest.main()
