"""Promises [34], [35] and the interface of fourmet/fourpart.py; and the step one of [8] for partings."""

import itertools
import unittest

from fourmet.fourpart import all_partings, count_partings, kind, lot_of, make_parting, meets, met_pick, picks
from helpers import (BIG, FAULTY, LETTERS, MESSY, SEVEN, THIRTEEN, TWELVE, in_each, kinds, partings_of, raised)


class TestStepOne(unittest.TestCase):
    def test_faulty_lots(self):
        for lots, told in FAULTY:
            self.assertEqual(raised(make_parting, ["a"], lots), told)
            self.assertEqual(raised(kind, lots), told)
            self.assertEqual(raised(kind, tuple(tuple(lot) for lot in lots)), told)
            self.assertEqual(raised(picks, lots), told)
            self.assertEqual(raised(meets, ["z"], lots), told)
            self.assertEqual(raised(met_pick, ["z"], lots), told)
            self.assertEqual(raised(lot_of, lots, "A"), told)

    def test_twelve_names_are_fine(self):
        self.assertEqual(kind([THIRTEEN[:9], ["j"], ["k"], ["l"]]), (9, 1, 1, 1))
        self.assertEqual(kind([["j"], ["k"], ["l"], THIRTEEN[:9]]), (9, 1, 1, 1))
        self.assertEqual(raised(kind, [THIRTEEN[:9], ["j"], ["k"], ["l", "m"]]), ("BadParting",))

    def test_the_names_come_first(self):
        for lots, _ in FAULTY:
            for call in (make_parting, meets, met_pick):
                self.assertEqual(raised(call, ["z", "Z"], lots), ("BadName", "Z"))
                self.assertEqual(raised(call, ["z", "z"], lots), ("RepeatedName", "z"))
                self.assertEqual(raised(call, THIRTEEN, lots), ("TooMany", 12))

    def test_every_order_of_lots_and_names(self):
        for lots in itertools.permutations([["b", "a"], ("c",), ["d", "e"], ("f",)]):
            told = (("a", "b"), ("c",), ("d", "e"), ("f",))
            self.assertEqual(make_parting(list("fabedc"), lots), told)
            self.assertEqual(picks(lots), picks(told))
            self.assertEqual([lot_of(list(lots), name) for name in "abcdef"], [0, 0, 1, 2, 2, 3])
            self.assertEqual(met_pick(list("fedcb"), lots), ("b", "c", "d", "f"))
            self.assertIs(meets(list("fedcb"), lots), True)
            self.assertIs(meets(list("fed"), lots), False)


class TestMakeParting(unittest.TestCase):
    def test_held_form(self):
        self.assertEqual(make_parting(list("gfedcba"), MESSY), SEVEN)
        self.assertEqual(make_parting(lots=MESSY, names=tuple("abcdefg")), SEVEN)
        self.assertEqual(kinds(make_parting(list("abcd"), [["d"], ["c"], ["b"], ["a"]])),
                         (tuple, ((tuple, (str,)),) * 4))
        for count in range(4, 8):
            names = tuple(LETTERS[:count])
            for parting in partings_of(names):
                self.assertEqual(make_parting(names[::-1], [list(lot[::-1]) for lot in parting[::-1]]), parting)
        self.assertEqual(make_parting(TWELVE, BIG[::-1]), BIG)

    def test_other_names(self):
        for names in ("", "a", "abcdef", "abcdefgh", "abcdefh", "bcdefg"):
            self.assertEqual(raised(make_parting, list(names), MESSY), ("BadParting",))
        self.assertEqual(raised(make_parting, list("abcd"), [["a"], ["b"], ["c"], ["z"]]), ("BadParting",))

    def test_arguments_stay(self):
        names, lots = list("gfedcba"), [["g", "d", "c"], ["e"], ["f", "a"], ["b"]]
        first = make_parting(names, lots)
        self.assertEqual((names, lots), (list("gfedcba"), [["g", "d", "c"], ["e"], ["f", "a"], ["b"]]))
        lots[0].append("z")
        self.assertEqual(first, SEVEN)


class TestAllPartings(unittest.TestCase):
    def test_every_count(self):
        for count, many in enumerate([0, 0, 0, 0, 1, 10, 65, 350]):
            names = tuple(LETTERS[:count])
            found = all_partings(names)
            self.assertIs(type(found), tuple)
            self.assertEqual(found, partings_of(names))
            self.assertEqual(len(found), many)
            self.assertEqual(list(found), sorted(found))

    def test_other_names_and_orders(self):
        told = partings_of(("b2", "h", "k", "k0", "x"))
        for names in itertools.permutations(["x", "b2", "k0", "k", "h"]):
            self.assertEqual(all_partings(names), told)
            self.assertEqual(all_partings(names=list(names)), told)
        self.assertEqual(all_partings(list("dcba")), ((("a",), ("b",), ("c",), ("d",)),))

    def test_errors(self):
        self.assertEqual(raised(all_partings, LETTERS[:8]), ("TooMany", 7))
        self.assertEqual(raised(all_partings, TWELVE), ("TooMany", 7))
        self.assertEqual(raised(all_partings, THIRTEEN), ("TooMany", 12))
        self.assertEqual(raised(all_partings, list("abcdefgha")), ("RepeatedName", "a"))
        self.assertEqual(raised(all_partings, ["a", "a", False]), ("BadName", False))


def ways_to_divide(count, lots):
    """D(n, k), by the document's words."""
    if count == 0:
        return 1 if lots == 0 else 0
    if lots == 0:
        return 0
    return lots * ways_to_divide(count - 1, lots) + ways_to_divide(count - 1, lots - 1)


class TestCountPartings(unittest.TestCase):
    def test_the_recurrence(self):
        for count in range(13):
            self.assertEqual(count_partings(count), ways_to_divide(count, 4))
            self.assertEqual(count_partings(count=count), ways_to_divide(count, 4))
        self.assertEqual([count_partings(count) for count in range(8)], [0, 0, 0, 0, 1, 10, 65, 350])
        self.assertEqual(count_partings(12), 611501)
        self.assertIs(type(count_partings(0)), int)

    def test_errors(self):
        for value in (-1, 13, True, False, None, "4"):
            self.assertEqual(raised(count_partings, value), ("BadNumber", value))


class TestKindAndLots(unittest.TestCase):
    def test_kind(self):
        for count in range(4, 8):
            for parting in partings_of(tuple(LETTERS[:count])):
                self.assertEqual(kind(parting), tuple(sorted((len(lot) for lot in parting), reverse=True)))
        self.assertEqual(kind(parting=MESSY), (3, 2, 1, 1))
        self.assertEqual(kind(BIG), (5, 4, 2, 1))
        self.assertEqual(kinds(kind(MESSY)), (tuple, (int,) * 4))

    def test_lot_of(self):
        for name in "abcdefg":
            told = [at for at, lot in enumerate(SEVEN) if name in lot]
            self.assertEqual([lot_of(MESSY, name)], told)
            self.assertEqual([lot_of(name=name, parting=SEVEN)], told)
        self.assertIs(type(lot_of(MESSY, "a")), int)

    def test_lot_of_errors(self):
        self.assertEqual(raised(lot_of, MESSY, "z"), ("UnknownName", "z"))
        for value in ("A", "", None, True, 0):
            self.assertEqual(raised(lot_of, MESSY, value), ("BadName", value))


class TestMeetingAndPicks(unittest.TestCase):
    def test_all_sets_of_names(self):
        for parting in (SEVEN, (("a", "b", "c", "d"), ("e",), ("f",), ("g",)), (("a",), ("b", "c"), ("d", "e"), ("f", "g"))):
            for size in range(8):
                for names in itertools.combinations("abcdefg", size):
                    met = in_each(names, parting)
                    pick = tuple(min(set(lot) & set(names)) for lot in parting) if met else None
                    self.assertIs(meets(list(names), parting), met)
                    self.assertIs(meets(parting=parting[::-1], names=names[::-1]), met)
                    self.assertEqual(met_pick(names[::-1], parting[::-1]), pick)
                    self.assertEqual(met_pick(parting=list(parting), names=list(names)), pick)

    def test_examples(self):
        self.assertIs(meets([], SEVEN), False)
        self.assertIsNone(met_pick([], SEVEN))
        self.assertEqual(met_pick(list("gfedcb"), MESSY), ("f", "b", "c", "e"))
        self.assertEqual(kinds(met_pick(list("gfedcb"), MESSY)), (tuple, (str,) * 4))
        self.assertIs(meets(TWELVE, BIG), True)

    def test_unknown_names(self):
        for call in (meets, met_pick):
            self.assertEqual(raised(call, ["z", "a", "y", "x1"], MESSY), ("UnknownName", "x1"))
            self.assertEqual(raised(call, list("abcdefgh"), MESSY), ("UnknownName", "h"))
            self.assertEqual(raised(call, ["z"], MESSY), ("UnknownName", "z"))

    def test_picks(self):
        for parting in partings_of(tuple("abcdefg")):
            found = picks(parting)
            self.assertEqual(found, tuple(sorted(itertools.product(*parting))))
            self.assertEqual(picks(parting=parting[::-1]), found)
        self.assertEqual(picks(MESSY)[:4], (("a", "b", "c", "e"), ("a", "b", "d", "e"), ("a", "b", "g", "e"),
                                            ("f", "b", "c", "e")))
        self.assertEqual(len(picks(BIG)), 40)
        self.assertEqual(len(picks([TWELVE[:3], TWELVE[3:6], TWELVE[6:9], TWELVE[9:]])), 81)
        self.assertEqual(kinds(picks(SEVEN)), (tuple, ((tuple, (str,) * 4),) * 6))

    def test_arguments_stay(self):
        lots = [["g", "d", "c"], ["e"], ["f", "a"], ["b"]]
        first = (kind(lots), lot_of(lots, "g"), meets(["g"], lots), met_pick(list("abce"), lots), picks(lots))
        again = (kind(lots), lot_of(lots, "g"), meets(["g"], lots), met_pick(list("abce"), lots), picks(lots))
        self.assertEqual(first, again)
        self.assertEqual(lots, [["g", "d", "c"], ["e"], ["f", "a"], ["b"]])


if __name__ == "__main__":
    unittest.main()
