"""Promises [3] to [5], [8], [10], [11] and the interface of fourmet/names.py."""

import itertools
import unittest

from fourmet import names as module
from fourmet.names import choose, is_name, joined, minus, name_tuple, shared, within
from helpers import LETTERS, THIRTEEN, TWELVE, is_name_tuple, kinds, raised

NOT_NAMES = ["", "A", "aB", "abcdefghi", "1a", "a-b", "a b", " a", "a ", "a\n", "_", "a_", "~", "a.", 0, 7, True,
             False, None]
NAMES = ["a", "z", "a0", "z9", "b12345", "abcdefgh", "h0000000"]


class TestConstants(unittest.TestCase):
    def test_their_values(self):
        told = {"MOST_SIGNS": 8, "MOST_NAMES": 12, "MOST_LISTS": 12, "PARTED_NAMES": 7, "GROWN_NAMES": 6,
                "MOST_TREES": 400, "MOST_TEXT": 400, "MOST_PAPER": 8000, "MOST_LINES": 40}
        for name, value in told.items():
            with self.subTest(name):
                self.assertEqual(getattr(module, name), value)
                self.assertIs(type(getattr(module, name)), int)


class TestIsName(unittest.TestCase):
    def test_names(self):
        for value in NAMES + list(LETTERS):
            self.assertIs(is_name(value), True, value)
            self.assertIs(is_name(value=value), True, value)

    def test_values_that_are_none(self):
        for value in [*NOT_NAMES, [], ["a"], (), ("a",)]:
            self.assertIs(is_name(value), False, value)

    def test_every_sign_at_every_place(self):
        for code in range(32, 127):
            sign = chr(code)
            self.assertIs(is_name(sign), sign in LETTERS, sign)
            self.assertIs(is_name("a" + sign), sign in LETTERS + "0123456789", sign)
            self.assertIs(is_name("a" + sign + "b"), sign in LETTERS + "0123456789", sign)


class TestNamesArgument(unittest.TestCase):
    """The step one checks of a names argument, at each argument of the module that is one."""

    def calls(self):
        yield lambda names: name_tuple(names)
        yield lambda names: name_tuple(names=names)
        for call in (shared, joined, minus, within):
            yield lambda names, call=call: call(names, [])
            yield lambda names, call=call: call(["a"], names)
            yield lambda names, call=call: call(two=names, one=())
            yield lambda names, call=call: call(names, ["B"]) if raised(name_tuple, names) else None
        yield lambda names: choose(names, 1)
        yield lambda names: choose(size=-1, names=names) if raised(name_tuple, names) else None

    def check(self, names, error):
        for call in self.calls():
            self.assertEqual(raised(call, names), error)
            self.assertEqual(raised(call, tuple(names)), error)

    def test_bad_names(self):
        for value in NOT_NAMES:
            for names in ([value], ["a", value], [value, "a"]):
                self.check(names, ("BadName", value))

    def test_the_value_of_a_bad_name_is_as_it_was_passed(self):
        for value in (True, False, None, 1, 0):
            try:
                name_tuple(["a", value])
            except ValueError as error:
                self.assertIs(error.name, value)

    def test_the_first_bad_name_counts(self):
        self.check(["a", "Z", "B"], ("BadName", "Z"))
        self.check(["a", 5, "B"], ("BadName", 5))

    def test_repeated_names(self):
        self.check(["a", "b", "c", "b", "a"], ("RepeatedName", "b"))
        self.check(["b", "a", "c", "a", "b"], ("RepeatedName", "a"))

    def test_bad_names_go_before_repeated_ones(self):
        self.check(["a", "a", "B"], ("BadName", "B"))

    def test_too_many_names(self):
        self.check(THIRTEEN, ("TooMany", 12))
        self.check(TWELVE, None)

    def test_repeated_names_go_before_too_many(self):
        self.check(THIRTEEN + ["c"], ("RepeatedName", "c"))
        self.check(TWELVE + ["l"], ("RepeatedName", "l"))
        self.check(THIRTEEN + ["c", None], ("BadName", None))


class TestSets(unittest.TestCase):
    def test_name_tuple(self):
        for given in itertools.permutations(["b", "a10", "a2"]):
            self.assertEqual(name_tuple(given), ("a10", "a2", "b"))
            self.assertEqual(name_tuple(list(given)), ("a10", "a2", "b"))
        self.assertEqual(name_tuple([]), ())
        self.assertEqual(name_tuple(["z"]), ("z",))
        self.assertEqual(name_tuple(reversed_list(TWELVE)), tuple(TWELVE))

    def test_against_sets(self):
        sides = [side for size in range(4) for side in itertools.permutations("abc", size)] + [("d", "b")]
        for one in sides:
            for two in sides:
                self.check_pair(one, two)
                self.check_pair(list(one), list(two))

    def check_pair(self, one, two):
        first, second = set(one), set(two)
        for call, told in ((shared, first & second), (joined, first | second), (minus, first - second)):
            self.assertEqual(call(one, two), tuple(sorted(told)))
            self.assertEqual(call(two=two, one=one), tuple(sorted(told)))
            self.assertTrue(is_name_tuple(call(one, two)))
        self.assertIs(within(one, two), first <= second)
        self.assertIs(within(two=two, one=one), first <= second)

    def test_joined_bound(self):
        self.assertEqual(joined(TWELVE[:6], TWELVE[3:]), tuple(TWELVE))
        self.assertEqual(raised(joined, TWELVE, ["m"]), ("TooMany", 12))
        self.assertEqual(raised(joined, THIRTEEN[:7], THIRTEEN[6:]), ("TooMany", 12))

    def test_which_argument_is_at_fault_first(self):
        for call in (shared, joined, minus, within):
            self.assertEqual(raised(call, ["a", "a"], ["B"]), ("RepeatedName", "a"))
            self.assertEqual(raised(call, THIRTEEN, ["B"]), ("TooMany", 12))

    def test_arguments_stay(self):
        one, two = ["c", "a"], ["b", "c"]
        for call in (shared, joined, minus, within):
            call(one, two)
        name_tuple(one)
        choose(one, 1)
        self.assertEqual((one, two), (["c", "a"], ["b", "c"]))


class TestChoose(unittest.TestCase):
    def test_against_combinations(self):
        for count in (0, 1, 4, 7, 12):
            for size in range(13):
                told = tuple(itertools.combinations(sorted(TWELVE[:count]), size))
                self.assertEqual(choose(reversed_list(TWELVE[:count]), size), told)

    def test_order_is_that_of_the_names(self):
        self.assertEqual(choose(["b", "a2", "a10"], 2), (("a10", "a2"), ("a10", "b"), ("a2", "b")))
        self.assertEqual(choose(size=2, names=("b", "a")), (("a", "b"),))

    def test_edges(self):
        self.assertEqual(choose([], 0), ((),))
        self.assertEqual(choose(["a"], 0), ((),))
        self.assertEqual(choose(["a"], 2), ())
        self.assertEqual(kinds(choose(["a", "b"], 1)), (tuple, ((tuple, (str,)), (tuple, (str,)))))

    def test_bad_sizes(self):
        for value in (-1, 13, 100, True, False, None, "1", ""):
            self.assertEqual(raised(choose, ["a"], value), ("BadNumber", value))
        try:
            choose([], True)
        except ValueError as error:
            self.assertIs(error.number, True)

    def test_names_are_checked_ahead_of_the_size(self):
        self.assertEqual(raised(choose, ["A"], 13), ("BadName", "A"))
        self.assertEqual(raised(choose, THIRTEEN, 13), ("TooMany", 12))


def reversed_list(items):
    return list(reversed(items))


if __name__ == "__main__":
    unittest.main()
