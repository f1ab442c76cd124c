"""Tests of asklines/lines.py (points 2, 3, 5, 8, 14, 15 and 17)."""

import unittest

from asklines import lines
from asklines.errors import AskError, NoLine, NoNode, NoTree
from asklines.lines import crossings, is_line, message_count, requests_of, view, views
from samples import (
    PromiseCase, doc_tree, filled_otherwise, no_nodes, no_trees, odd_values, path_tree, sample_lines, sample_trees,
    side_of, slow_view, snapshot, star_tree,
)

DOC_LINE = ["p", "a", "g", "b", "a"]
OF_TREE_AND_LINE = (requests_of, views, crossings, message_count)


def no_lines():
    """Values that are no line of the document's tree."""
    return odd_values() + ["p", "pa", ("p",), ("p", "a"), {"p": "a"}, {"p": []}, ["x"], ["p", "x"], ["x", "p"],
                           ["p"] * 401, ["p", "a"] * 300, ("p",) * 400, ["p"] * 399 + ["x"], [["p"]], ["p", ["a"]],
                           ["p", None], ["p", 0], ["p", b"a"], ["p", {}], ["p", ("a",)], ["p", "A"], ["p", ""]]


def slow_crossings(tree, line):
    """For each edge the pairs of entries that it parts."""
    counts = {}
    for x in tree:
        for y in tree[x]:
            if x < y:
                side = side_of(tree, x, y)
                counts[(x, y)] = sum((a in side) != (b in side) for a, b in zip(line, line[1:]))
    return counts


class Interface(unittest.TestCase):

    def test_each_function_is_defined_in_this_file(self):
        for name in ("is_line", "requests_of", "view", "views", "crossings", "message_count"):
            self.assertEqual(getattr(lines, name).__module__, "asklines.lines")
            self.assertEqual(getattr(lines, name).__name__, name)


class Lines(PromiseCase):

    def test_example(self):
        tree = doc_tree()
        self.assertEqual([is_line(tree, ["p", "p"]), is_line(tree, []), is_line(tree, ["x"])], [True, False, False])

    def test_lines(self):
        for tree in sample_trees():
            for line in sample_lines(tree):
                self.assertIs(self.same_however_filled(is_line, tree, line), True)

    def test_lengths(self):
        for length in (0, 1, 2, 3, 50, 399, 400, 401, 402, 1000):
            for node in ("p", "g"):
                self.assertIs(self.told(is_line, doc_tree(), [node] * length), 1 <= length <= 400)

    def test_values_of_any_kind(self):
        for value in no_lines():
            with self.subTest(value=value):
                self.assertIs(self.told(is_line, doc_tree(), value), False)

    def test_any_value_as_an_entry(self):
        for value in odd_values() + ["x"]:
            for line in ([value], ["p", value], [value, "p"], ["p", value, "p"]):
                with self.subTest(line=line):
                    self.assertIs(self.told(is_line, doc_tree(), line), False)

    def test_no_tree(self):
        for value in no_trees():
            for line in (["p"], [], None, ["x"], {}):
                with self.subTest(value=value):
                    self.fails(NoTree, is_line, value, line)


class Requests(PromiseCase):

    def test_example(self):
        expected = [("p", 0), ("a", 1), ("g", 1), ("b", 1), ("a", 2)]
        self.assertEqual(self.told(requests_of, doc_tree(), DOC_LINE), expected)

    def test_the_holder_alone(self):
        for tree in sample_trees():
            for node in tree:
                self.assertEqual(requests_of(tree, [node]), [(node, 0)])

    def test_the_first_entry_again(self):
        self.assertEqual(self.told(requests_of, doc_tree(), ["p", "p"]), [("p", 0), ("p", 1)])
        expected = [("a", 0), ("p", 1), ("a", 1), ("a", 2), ("p", 2), ("a", 3)]
        self.assertEqual(self.told(requests_of, doc_tree(), ["a", "p", "a", "a", "p", "a"]), expected)

    def test_400_times_the_same_node(self):
        self.assertEqual(requests_of({"p": []}, ["p"] * 400), [("p", number) for number in range(400)])

    def test_numbers_by_counting(self):
        for tree in sample_trees():
            for line in sample_lines(tree):
                expected = [(node, line[1:at + 1].count(node)) for at, node in enumerate(line)]
                self.assertEqual(self.same_however_filled(requests_of, tree, line), expected)


class Views(PromiseCase):

    def test_examples(self):
        self.assertEqual(self.told(view, doc_tree(), DOC_LINE, "a"), ["a", "g", "p", "a"])
        self.assertEqual(self.told(view, doc_tree(), DOC_LINE, "p"), ["a", "b", "a"])
        self.assertEqual(self.told(views, doc_tree(), ["p", "b"]), {"a": [], "b": ["b"], "g": [], "p": ["b"]})

    def test_the_holder_alone_shows_nothing(self):
        for tree in sample_trees():
            for holder in tree:
                self.assertEqual(views(tree, [holder]), {node: [] for node in tree})

    def test_a_node_sees_each_request_of_its_own(self):
        self.assertEqual(self.told(view, {"p": []}, ["p"] * 400, "p"), ["p"] * 399)
        self.assertEqual(self.told(view, doc_tree(), ["g", "g", "g"], "g"), ["g", "g"])
        self.assertEqual(self.told(view, doc_tree(), ["g", "g", "g"], "a"), [])

    def test_the_same_direction_again_is_left_out(self):
        self.assertEqual(self.told(view, doc_tree(), ["p", "a", "g", "a"], "p"), ["a"])
        self.assertEqual(self.told(view, doc_tree(), ["a", "g", "p", "g", "p"], "p"), ["p", "a", "p"])
        self.assertEqual(self.told(view, doc_tree(), ["a", "g", "a"], "p"), [])

    def test_views_by_a_slow_count(self):
        for tree in sample_trees():
            for line in sample_lines(tree):
                expected = {node: slow_view(tree, line, node) for node in tree}
                self.assertEqual(self.told(views, tree, line), expected)

    def test_view_is_the_one_in_views(self):
        for tree in sample_trees():
            for line in sample_lines(tree)[-3:]:
                seen = views(tree, line)
                for node in sorted(tree)[::5]:
                    self.assertEqual(self.told(view, tree, line, node), seen[node])

    def test_filled_otherwise(self):
        for tree in sample_trees():
            line = sample_lines(tree)[-2]
            self.same_however_filled(views, tree, line)
            self.same_however_filled(view, tree, line, min(tree))

    def test_no_node(self):
        for value in no_nodes():
            with self.subTest(value=value):
                self.fails(NoNode, view, doc_tree(), DOC_LINE, value)

    def test_view_raises_in_the_listed_order(self):
        for node in ("p", "x", None, []):
            for line in (["p"], ["x"], [], None):
                self.fails(NoTree, view, {"p": ["p"]}, line, node)
            for value in no_lines():
                with self.subTest(value=value):
                    self.fails(NoLine, view, doc_tree(), value, node)
            for value in no_trees():
                with self.subTest(value=value):
                    self.fails(NoTree, view, value, ["p"], node)


class Crossings(PromiseCase):

    def test_examples(self):
        expected = {("a", "g"): 2, ("a", "p"): 3, ("b", "p"): 2}
        self.assertEqual(self.told(crossings, doc_tree(), DOC_LINE), expected)
        self.assertEqual(self.told(message_count, doc_tree(), DOC_LINE), 7)

    def test_no_edge(self):
        self.assertEqual(self.told(crossings, {"p": []}, ["p"] * 400), {})
        self.assertEqual(self.told(message_count, {"p": []}, ["p"] * 400), 0)

    def test_edges_that_nothing_crosses(self):
        expected = {("a", "g"): 0, ("a", "p"): 0, ("b", "p"): 0}
        self.assertEqual(self.told(crossings, doc_tree(), ["p"]), expected)
        self.assertEqual(self.told(crossings, doc_tree(), ["b", "b", "b"]), expected)
        self.assertEqual(self.told(message_count, doc_tree(), ["p"]), 0)

    def test_to_and_fro_along_a_path_of_40_nodes(self):
        tree = path_tree(40)
        first, last = [node for node in tree if len(tree[node]) == 1]
        line = [first, last] * 200
        self.assertEqual(set(self.told(crossings, tree, line).values()), {399})
        self.assertEqual(self.told(message_count, tree, line), 399 * 39)

    def test_around_a_star_of_40_nodes(self):
        tree = star_tree(40)
        centre = [node for node in tree if len(tree[node]) == 39][0]
        self.assertEqual(set(crossings(tree, [centre, *tree[centre], centre]).values()), {2})
        self.assertEqual(message_count(tree, [centre, *tree[centre]]), 77)

    def test_crossings_by_a_slow_count(self):
        for tree in sample_trees():
            for line in sample_lines(tree):
                expected = slow_crossings(tree, line)
                self.assertEqual(self.told(crossings, tree, line), expected)
                self.assertEqual(self.told(message_count, tree, line), sum(expected.values()))

    def test_filled_otherwise(self):
        for tree in sample_trees():
            line = sample_lines(tree)[-2]
            self.same_however_filled(crossings, tree, line)
            self.same_however_filled(message_count, tree, line)


class Errors(PromiseCase):

    def test_no_tree_comes_first(self):
        for function in OF_TREE_AND_LINE:
            for value in no_trees():
                for line in (["p"], ["x"], [], None, {}):
                    with self.subTest(function=function, value=value):
                        self.fails(NoTree, function, value, line)

    def test_no_line(self):
        for function in OF_TREE_AND_LINE:
            for value in no_lines():
                with self.subTest(function=function, value=value):
                    self.fails(NoLine, function, doc_tree(), value)

    def test_lines_of_400_and_401_entries(self):
        for function in OF_TREE_AND_LINE:
            self.told(function, doc_tree(), ["p", "a"] * 200)
            self.fails(NoLine, function, doc_tree(), ["p", "a"] * 200 + ["p"])

    def test_all_errors_are_ask_errors(self):
        for values in (([], ["p"], "p"), (doc_tree(), [], "p"), (doc_tree(), ["p"], "x")):
            for error in (AskError, ValueError):
                with self.assertRaises(error):
                    view(*values)


class ChangedArguments(PromiseCase):

    def test_an_entry_appended_in_place_counts_in_the_next_call(self):
        tree, line = doc_tree(), ["p", "a"]
        self.assertEqual(message_count(tree, line), 1)
        self.assertEqual(views(tree, line), {"a": ["a"], "b": [], "g": [], "p": ["a"]})
        line.append("b")
        self.assertEqual(requests_of(tree, line), [("p", 0), ("a", 1), ("b", 1)])
        self.assertEqual(view(tree, line, "a"), ["a", "p"])
        self.assertEqual(views(tree, line), {"a": ["a", "p"], "b": ["b"], "g": [], "p": ["a", "b"]})
        self.assertEqual(crossings(tree, line), {("a", "g"): 0, ("a", "p"): 2, ("b", "p"): 1})
        self.assertEqual(message_count(tree, line), 3)
        line.append("x")
        self.assertIs(is_line(tree, line), False)
        self.fails(NoLine, message_count, tree, line)

    def test_a_leaf_added_in_place_counts_in_the_next_call(self):
        tree, line = {"a": ["p"], "p": ["a"]}, ["p", "c", "a"]
        self.assertIs(is_line(tree, line), False)
        self.fails(NoLine, views, tree, line)
        tree["p"].append("c")
        self.fails(NoTree, views, tree, line)
        tree["c"] = ["p"]
        self.assertIs(is_line(tree, line), True)
        self.assertEqual(views(tree, line), {"a": ["a"], "c": ["c", "p"], "p": ["c", "a"]})
        self.assertEqual(crossings(tree, line), {("a", "p"): 1, ("c", "p"): 2})

    def test_arguments_changed_after_the_call_leave_the_result(self):
        tree, line = doc_tree(), list(DOC_LINE)
        held = [requests_of(tree, line), view(tree, line, "a"), views(tree, line), crossings(tree, line)]
        shown = snapshot(held)
        line.clear()
        tree.clear()
        self.assertEqual(snapshot(held), shown)

    def test_equal_arguments_in_other_objects(self):
        for tree in filled_otherwise(doc_tree()):
            self.assertEqual(views(tree, list(DOC_LINE)), views(doc_tree(), DOC_LINE))


if __name__ == "__main__":
    unittest.main()
