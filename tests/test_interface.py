"""The interface: every name stands in its own file, with the arguments that are shown."""

import importlib
import inspect
import unittest

import fourmet

FUNCTIONS = {
    "names": ["is_name(value)", "name_tuple(names)", "shared(one, two)", "joined(one, two)", "minus(one, two)",
              "within(one, two)", "choose(names, size)"],
    "trees": ["near_side(names, side)", "cross(names, one, two)", "free_splits(tree)", "refines(one, two)"],
    "places": ["ties(tree)", "places(tree)", "from_places(names, told)", "way(tree, one, two)",
               "meeting_place(tree, names)", "name_place(tree, name)"],
    "treetext": ["write_tree(tree)", "read_tree(text)", "is_told(text)"],
    "cutdown": ["cut_down(tree, names)", "strike(tree, name)", "alike(one, two, names)", "alike_on(one, two, book)",
                "true_telling(tree, book)", "is_telling(book, trees)"],
    "fours": ["say(tree, names)", "told_fours(tree)", "from_fours(names, statements)",
              "rooted_pair(tree, root, names)", "rooted_entries(tree, root)", "from_entries(names, root, entries)"],
    "twins": ["are_twins(tree, one, two)", "twin_groups(tree)", "end_groups(tree)", "first_end_group(tree)"],
    "attach": ["spots(tree)", "hang(tree, name, spot)", "spot_of(tree, name)", "hang_pair(tree, name, new)",
               "hang_beside(tree, name, new)", "all_trees(names)", "count_trees(count, *, inner=None)"],
    "differ": ["unlike_fours(one, two)", "unlike_splits(one, two)", "unlike_lists(book, one, two)",
               "distance(book, one, two)", "told_distance(trees, others)", "fours_in_lists(book)", "open_fours(book)"],
    "fourpart": ["make_parting(names, lots)", "all_partings(names)", "count_partings(count)", "kind(parting)",
                 "lot_of(parting, name)", "meets(names, parting)", "met_pick(names, parting)", "picks(parting)"],
    "unmet": ["meeting_lists(book, parting)", "unmet_partings(book, *, most=400)", "met_counts(book)",
              "least_met(book)", "strength(book)", "least_by_kind(book)", "sparing_book(parting)"],
    "bothtrees": ["lot_tree(parting, *, beside=None)", "both_trees(parting)", "closest_pair(book)",
                  "is_alike_pair(book, one, two)", "alike_pair(book)"],
    "readoff": ["separates(parting, one, two)", "read_off(one, two)", "read_steps(one, two)",
                "read_unmet(book, one, two)"],
    "tellsall": ["tells_all(book)", "tells_by_trees(book)", "verdict(book)", "is_verdict(book, paper)"],
    "common": ["names_in_all(book)", "triple_counts(book, root)", "weakest_triple(book, root)",
               "strength_by_root(book, root)", "single_parting(names, three)", "with_root(book, root)",
               "root_paper(book, root)", "is_root_paper(book, paper)", "root_lists(book, root)"],
    "pairsjoined": ["pair_lists(book, one, two)", "pair_blocks(book, one, two)", "is_joined(book, one, two)",
                    "pairs_joined(book)", "first_unjoined(book)", "pair_parting(book, one, two)",
                    "pair_strength(book, one, two)", "strength_by_pairs(book)"],
    "losses": ["bears(book, *, lost=0, lying=0)", "bears_by_losing(book, *, lost=1)", "fatal_loss(book)",
               "is_fatal(book, paper, *, lost)"],
    "lies": ["lying_lists(book, trees, tree)", "told_with_lies(book, tree, lies)",
             "confusion(book, *, lost=0, lying=0)", "is_confusion(book, paper, *, lost=0, lying=0)"],
    "mend": ["misses(book, trees, tree)", "nearest(book, trees)", "mend(book, trees, *, lying=0)",
             "vote_counts(book, trees, root)", "mend_by_votes(book, trees, root)"],
    "terrace": ["fitting(book, trees, *, most=400)", "fit(book, trees)", "terrace(book, tree, *, most=400)",
                "is_alone(book, tree)", "sure_tree(book, tree)", "conflict(book, trees)",
                "fit_by_root(book, trees, root)"],
    "rooted": ["to_tree(rooted, root)", "from_tree(tree, root)", "write_rooted(rooted)", "read_rooted(text)",
               "cut_rooted(rooted, names)", "rooted_unlike(book, one, two)", "trio_lists(book, lots)",
               "both_rooted(names, lots)", "weakest_trio(book, *, crown=False)",
               "rooted_strength(book, *, crown=False)", "read_crown(one, two)",
               "bears_rooted(book, *, lost=0, lying=0, crown=False)",
               "rooted_confusion(book, *, lost=0, lying=0, crown=False)"],
    "corral": ["pair_heights(dated)", "from_heights(names, told)", "pairs_level(rooted, pairs)",
               "other_heights(rooted, pairs)", "higher_tree(dated, pairs)", "lower_tree(dated, pairs)",
               "highest_tree(names, told)", "only_tree(names, told)", "plain_pairs(rooted, *, level=3)",
               "fewest_pairs(rooted, *, level=3)"],
    "crossings": ["table(book)", "from_table(names, rows)", "times_table(book)", "weakest_first(book, *, most=400)",
                  "touched(book, parting)", "shortfall(book, parting)", "mended_by(book, index, name)",
                  "entry_gains(book)", "mend_entries(book, *, most=3)", "three_bound(book)", "groves(book)",
                  "grove_parting(book)", "join_trees(trees)", "fit_by_groves(book, trees)"],
    "papers": ["write_book(book)", "read_book(text)", "write_parting(parting)", "read_parting(text)",
               "write_paper(paper)", "read_paper(text)", "is_right(book, paper, *, lost=0, lying=0)",
               "judge(book, text, *, lost=0, lying=0)"],
    "script": ["run_line(desk, line)", "run(text)"],
    "fill": ["fill(book)", "fewest_lists(book, candidates, *, need=1)", "needless_lists(book)", "core(book)"],
}
CLASSES = {
    ("books", "Book"): ["__init__(self, names, lists=())", "__len__(self)", "__iter__(self)", "of_lists(lists)",
                        "with_list(self, names)", "with_name(self, name)", "without_name(self, name)",
                        "without_lists(self, indexes)", "only_lists(self, indexes)", "holding(self, names)",
                        "distinct(self)"],
    ("trees", "Tree"): ["__init__(self, names, splits=())", "__len__(self)", "__iter__(self)",
                        "renamed(self, old, new)", "exchanged(self, one, two)", "with_split(self, side)",
                        "without_split(self, side)"],
    ("desk", "Desk"): ["__init__(self, book)", "__len__(self)", "__iter__(self)", "add_name(self, name)",
                       "drop_name(self, name)", "add_list(self, names)", "drop_list(self, index)",
                       "lose(self, index)", "restore(self, index)", "undo(self)"],
    ("rooted", "Rooted"): ["__init__(self, names, clusters=())", "__len__(self)", "__iter__(self)",
                           "children(self, ball)"],
    ("corral", "Dated"): ["__init__(self, rooted, heights)", "__len__(self)", "__iter__(self)",
                          "__call__(self, one, two)"],
}
PROPERTIES = {
    ("books", "Book"): ["names", "lists", "useful"],
    ("trees", "Tree"): ["names", "splits", "is_star", "is_full"],
    ("desk", "Desk"): ["book", "left", "lost", "strength", "tells", "weakest", "edits"],
    ("rooted", "Rooted"): ["names", "clusters", "balls", "crown"],
    ("corral", "Dated"): ["names", "rooted", "heights"],
}
OPERATORS = {("books", "Book"): ["__contains__", "__eq__", "__add__"],
             ("trees", "Tree"): ["__contains__", "__eq__", "__and__"],
             ("desk", "Desk"): ["__contains__"],
             ("rooted", "Rooted"): ["__contains__", "__eq__"],
             ("corral", "Dated"): ["__eq__"]}


def module_of(name):
    return importlib.import_module("fourmet." + name)


class TestInterface(unittest.TestCase):
    def test_functions(self):
        for file, told in FUNCTIONS.items():
            module = module_of(file)
            for line in told:
                function = getattr(module, line.split("(")[0])
                self.assertEqual(function.__module__, "fourmet." + file)
                self.assertEqual(function.__name__ + str(inspect.signature(function)), line)

    def test_methods_stand_in_the_class_itself(self):
        for (file, name), told in CLASSES.items():
            body = vars(getattr(module_of(file), name))
            for line in told:
                method = body[line.split("(")[0]]
                function = getattr(method, "__func__", method)
                self.assertEqual(function.__name__ + str(inspect.signature(function)), line)

    def test_properties_and_operators_stand_in_the_class_itself(self):
        for (file, name), told in PROPERTIES.items():
            body = vars(getattr(module_of(file), name))
            for word in told:
                self.assertIsInstance(body[word], property)
            for word in OPERATORS[(file, name)]:
                self.assertIn(word, body)

    def test_of_lists_is_a_static_method(self):
        self.assertIsInstance(vars(module_of("books").Book)["of_lists"], staticmethod)

    def test_the_package_itself_gives_nothing_but_its_text(self):
        self.assertTrue(fourmet.__doc__)
        with open(fourmet.__file__, encoding="utf-8") as held:
            self.assertEqual(held.read().strip(), '"""' + fourmet.__doc__ + '"""')


if __name__ == "__main__":
    unittest.main()
