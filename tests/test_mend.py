"""Promises [48], [49], [25] and the interface of fourmet/mend.py."""

import itertools
import random
import unittest

from fourmet.books import Book
from fourmet.cutdown import true_telling
from fourmet.losses import bears
from fourmet.mend import mend, mend_by_votes, misses, nearest, vote_counts
from fourmet.trees import Tree
from helpers import (LETTERS, TWELVE, caterpillar, is_lie, kinds, raised, some_books, some_tellings, statement,
                     told_wrong, trees_on)

BOOK = Book(list("abcde"), [list("abcd"), list("abcde"), [], list("abce"), list("abc"), list("abcde")])
TREE = Tree(list("abcde"), [["d", "e"], ["c", "d", "e"]])


def cases():
    """Books of up to six names with tellings, some of which fit a tree but for a few lies."""
    for count in range(7):
        names = tuple(LETTERS[:count])
        found = [Book(names), Book(names, [names]), Book(names, [names, [], names[:3], names, names[1:]])]
        for at, book in enumerate(found + some_books(4, count, most=7, seed=31)):
            for trees in some_tellings(book, 2, seed=at):
                yield book, trees
            yield book, with_lies(book, trees_on(names)[-1], at % 3, at)


def with_lies(book, tree, many, seed):
    """The true telling of a tree, with other trees told at so many of the lists."""
    source = random.Random(seed)
    told = list(true_telling(tree, book))
    for at in source.sample(range(len(book)), min(many, len(book))):
        told[at] = source.choice(trees_on(book.lists[at]))
    return told


def missed(trees, tree):
    return sum(is_lie(tree, told) for told in trees)


def common_cases():
    """Books with a common root and tellings: triples (book, trees, root)."""
    for count in range(1, 7):
        names = tuple(LETTERS[:count])
        for at, book in enumerate(some_books(4, count, most=7, seed=32) + [Book(names), Book(names, [names] * 3)]):
            root = names[at % count]
            held = Book(names, [sorted({root, *row}) for row in book.lists])
            for trees in some_tellings(held, 2, seed=at):
                yield held, trees, root
            yield held, with_lies(held, trees_on(names)[-1], 1, at), root
            yield held, true_telling(trees_on(names)[len(trees_on(names)) // 2], held), root


def pair_of(tree, root, three):
    """The rooted pair of a three, from what the tree says of it with the root."""
    said = statement(tree, tuple(sorted((root, *three))))
    if said is None:
        return None
    return said[1] if root in said[0] else said[0]


def votes_by_hand(book, trees, root):
    found = []
    for three in itertools.combinations([name for name in book.names if name != root], 3):
        cast = [pair_of(tree, root, three) for tree in trees if set(three) <= set(tree.names)]
        a, b, c = three
        found.append((three, tuple(cast.count(pair) for pair in (None, (a, b), (a, c), (b, c)))))
    return tuple(found)


class TestMisses(unittest.TestCase):
    def test_cases(self):
        for book, trees in cases():
            for tree in trees_on(book.names)[::13]:
                self.assertEqual(misses(book, trees, tree), missed(trees, tree))
                self.assertEqual(misses(tree=tree, trees=tuple(trees), book=book), missed(trees, tree))

    def test_examples_and_large_books(self):
        self.assertEqual(misses(Book([]), [], Tree([])), 0)
        self.assertEqual(misses(BOOK, true_telling(TREE, BOOK), TREE), 0)
        self.assertEqual(misses(BOOK, [Tree(names) for names in BOOK.lists], TREE), 4)
        book = Book(TWELVE, [TWELVE] * 12)
        self.assertEqual(misses(book, [Tree(TWELVE)] * 12, caterpillar(12)), 12)
        self.assertIs(type(misses(book, [Tree(TWELVE)] * 12, Tree(TWELVE))), int)

    def test_errors(self):
        good = true_telling(TREE, BOOK)
        for trees, at in told_wrong(BOOK, good):
            self.assertEqual(raised(misses, BOOK, trees, TREE), ("BadTelling", at))
            self.assertEqual(raised(misses, BOOK, trees, Tree(list("abcd"))), ("UnlikeNames",))
        self.assertEqual(raised(misses, BOOK, good, Tree(list("abcdf"))), ("UnlikeNames",))


class TestNearest(unittest.TestCase):
    def test_cases(self):
        for book, trees in cases():
            rows = [missed(trees, tree) for tree in trees_on(book.names)]
            found = tuple(tree for tree, number in zip(trees_on(book.names), rows) if number == min(rows))
            self.assertEqual(nearest(book, trees), (min(rows), found))
            self.assertEqual(nearest(trees=tuple(trees), book=book), (min(rows), found))

    def test_examples(self):
        self.assertEqual(nearest(BOOK, true_telling(TREE, BOOK)), (0, (TREE,)))
        self.assertEqual(kinds(nearest(BOOK, true_telling(TREE, BOOK))), (tuple, (int, (tuple, (Tree,)))))
        self.assertEqual(nearest(Book(list("abcd")), []), (0, trees_on(tuple("abcd"))))
        for count in range(4):
            names = list(LETTERS[:count])
            self.assertEqual(nearest(Book(names, [names]), [Tree(names)]), (0, (Tree(names),)))

    def test_errors(self):
        for trees, at in told_wrong(BOOK, true_telling(TREE, BOOK)):
            self.assertEqual(raised(nearest, BOOK, trees), ("BadTelling", at))
            self.assertEqual(raised(mend, BOOK, trees), ("BadTelling", at))
        seven = Book(LETTERS[:7], [LETTERS[:7]])
        for call in (nearest, mend):
            self.assertIn(raised(call, Book(LETTERS[:6]), []), (None, ("SeveralTrees",)))
            self.assertEqual(raised(call, seven, [Tree(LETTERS[:7])]), ("TooMany", 6))
            self.assertEqual(raised(call, Book(TWELVE), []), ("TooMany", 6))
            self.assertEqual(raised(call, seven, []), ("BadTelling", 0))


class TestMend(unittest.TestCase):
    def test_cases(self):
        seen = set()
        for book, trees in cases():
            rows = [(missed(trees, tree), tree) for tree in trees_on(book.names)]
            for lying in range(13):
                found = [tree for number, tree in rows if number <= lying]
                seen.add(min(2, len(found)))
                if len(found) == 1:
                    self.assertEqual(mend(book, trees, lying=lying), found[0])
                    self.assertEqual(mend(lying=lying, trees=tuple(trees), book=book), found[0])
                else:
                    due = "SeveralTrees" if found else "NoTree"
                    self.assertEqual(raised(mend, book, trees, lying=lying), (due,))
            self.assertEqual(raised(mend, book, trees), raised(mend, book, trees, lying=0))
        self.assertEqual(seen, {0, 1, 2})

    def test_it_finds_the_tree_again_while_it_can(self):
        """[48]: at most e lists lie and the book bears them."""
        source = random.Random(3)
        for count in (4, 5, 6):
            names = tuple(LETTERS[:count])
            for book in [Book(names, [names] * 5), Book(names, [names] * 3 + [names[1:]])] + some_books(5, count, seed=33):
                for lying in range(4):
                    if bears(book, lying=lying):
                        for tree in source.sample(trees_on(names), 3):
                            trees = with_lies(book, tree, lying, source.randrange(99))
                            self.assertEqual(mend(book, trees, lying=lying), tree)

    def test_at_most_one_tree_has_few_misses(self):
        book = Book(list("abcd"), [list("abcd")] * 3)
        for told in itertools.product(trees_on(tuple("abcd")), repeat=3):
            rows = [missed(told, tree) <= 1 for tree in trees_on(tuple("abcd"))]
            self.assertLessEqual(sum(rows), 1)
            self.assertEqual(raised(mend, book, told, lying=1) is None, sum(rows) == 1)

    def test_errors(self):
        good = true_telling(TREE, BOOK)
        self.assertEqual(mend(BOOK, good), TREE)
        for value in (-1, 13, 10 ** 30, True, False, None, "0"):
            self.assertEqual(raised(mend, BOOK, good, lying=value), ("BadNumber", value))
            self.assertEqual(raised(mend, BOOK, [], lying=value), ("BadNumber", value))
            self.assertEqual(raised(mend, Book(TWELVE), [], lying=value), ("BadNumber", value))
        self.assertEqual(mend(Book([]), [], lying=12), Tree([]))
        self.assertEqual(raised(mend, Book(list("abcd")), []), ("SeveralTrees",))


class TestVotes(unittest.TestCase):
    def test_counts(self):
        for book, trees, root in common_cases():
            told = votes_by_hand(book, trees, root)
            self.assertEqual(vote_counts(book, trees, root), told)
            self.assertEqual(vote_counts(root=root, trees=tuple(trees), book=book), told)
            if len(book.names) < 4:
                self.assertEqual(told, ())

    def test_examples(self):
        book = Book(list("abcd"), [list("abcd")] * 4 + [list("bc"), list("abc")])
        one, two, star = Tree(list("abcd"), [["a", "b"]]), Tree(list("abcd"), [["b", "d"]]), Tree(list("abcd"))
        trees = [one, two, star, one, Tree(list("bc")), Tree(list("abc"))]
        self.assertEqual(vote_counts(book, trees, "c"), ((("a", "b", "d"), (1, 2, 0, 1)),))
        self.assertEqual(kinds(vote_counts(book, trees, "b")), (tuple, ((tuple, ((tuple, (str,) * 3),
                                                                               (tuple, (int,) * 4))),)))
        self.assertEqual(mend_by_votes(book, trees, "c"), one)
        large = Book(TWELVE, [TWELVE] * 2)
        found = vote_counts(large, [caterpillar(12), Tree(TWELVE)], "f")
        self.assertEqual(len(found), 165)
        self.assertEqual({sum(votes) for _, votes in found}, {2})

    def test_ties(self):
        names = list("abcd")
        trees = {None: Tree(names), ("b", "c"): Tree(names, [["b", "c"]]), ("b", "d"): Tree(names, [["b", "d"]]),
                 ("c", "d"): Tree(names, [["c", "d"]])}
        order = [None, ("b", "c"), ("b", "d"), ("c", "d")]
        for counts in itertools.product(range(3), repeat=4):
            book = Book(names, [names] * sum(counts))
            told = [trees[pair] for pair, many in zip(order, counts) for _ in range(many)]
            won = order[counts.index(max(counts))]
            self.assertEqual(mend_by_votes(book, told[::-1], "a"), trees[won])
            self.assertEqual(vote_counts(book, told, "a"), ((("b", "c", "d"), counts),))

    def test_mending_by_votes(self):
        seen = set()
        for book, trees, root in common_cases():
            won = [(three, [None, three[:2], three[::2], three[1:]][votes.index(max(votes))])
                   for three, votes in votes_by_hand(book, trees, root)]
            found = [tree for tree in trees_on(book.names)
                     if all(pair_of(tree, root, three) == pair for three, pair in won)]
            self.assertLessEqual(len(found), 1)
            seen.add(len(found))
            if found:
                self.assertEqual(mend_by_votes(book, trees, root), found[0])
                self.assertEqual(mend_by_votes(root=root, trees=tuple(trees), book=book), found[0])
            else:
                self.assertEqual(raised(mend_by_votes, book, trees, root), ("NoTree",))
        self.assertEqual(seen, {0, 1})

    def test_it_finds_the_tree_again_while_it_can(self):
        """[49]: each three has a count of at least 2 e + 1 and at most e lists lie."""
        source = random.Random(4)
        for count in (4, 5, 6):
            names = tuple(LETTERS[:count])
            for lying, many in ((1, 3), (1, 5), (2, 5), (5, 11)):
                book = Book(names, [names] * many)
                for tree in source.sample(trees_on(names), 3):
                    for root in names[::2]:
                        trees = with_lies(book, tree, lying, source.randrange(99))
                        self.assertEqual(mend_by_votes(book, trees, root), tree)
        tree = caterpillar(12)
        book = Book(TWELVE, [TWELVE] * 3)
        self.assertEqual(mend_by_votes(book, [tree, Tree(TWELVE), tree], "g"), tree)

    def test_nobody_votes(self):
        self.assertEqual(mend_by_votes(Book(TWELVE), [], "b"), Tree(TWELVE))
        for count in range(1, 4):
            names = list(LETTERS[:count])
            self.assertEqual(mend_by_votes(Book(names, [names]), [Tree(names)], "a"), Tree(names))
            self.assertEqual(vote_counts(Book(names), [], "a"), ())

    def test_errors(self):
        book = Book(list("abcd"), [list("abcd"), list("bcd"), list("abd"), list("ab"), []])
        good = [Tree(names) for names in book.lists]
        bad = good[:3]
        for call in (vote_counts, mend_by_votes):
            for value in ("A", "", 3, True, None):
                self.assertEqual(raised(call, book, bad, value), ("BadName", value))
            self.assertEqual(raised(call, book, bad, "z"), ("UnknownName", "z"))
            self.assertEqual(raised(call, book, bad, "a"), ("BadTelling", 3))
            for trees, at in told_wrong(book, good):
                self.assertEqual(raised(call, book, trees, "c"), ("BadTelling", at))
            for root, at in (("a", 1), ("b", 4), ("c", 2), ("d", 3)):
                self.assertEqual(raised(call, book, good, root), ("NotInAll", at))
            self.assertEqual(raised(call, Book([]), [], "a"), ("UnknownName", "a"))

    def test_arguments_stay(self):
        trees = list(true_telling(TREE, BOOK.without_lists([2])))
        book = BOOK.without_lists([2])
        first = (misses(book, trees, TREE), nearest(book, trees), mend(book, trees), vote_counts(book, trees, "a"),
                 mend_by_votes(book, trees, "a"))
        self.assertEqual(trees, list(true_telling(TREE, BOOK.without_lists([2]))))
        self.assertEqual(book, BOOK.without_lists([2]))
        self.assertEqual(first, (misses(book, trees, TREE), nearest(book, trees), mend(book, trees),
                                 vote_counts(book, trees, "a"), mend_by_votes(book, trees, "a")))


if __name__ == "__main__":
    unittest.main()
