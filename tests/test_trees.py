"""Tests of asklines/trees.py (points 2, 3, 5, 6 and 7)."""

import unittest

from asklines import trees
from asklines.errors import AskError, NoName, NoNode, NoTree, Taken, TooMany
from asklines.trees import direction, edges_of, is_name, is_tree, path_between, with_leaf
from samples import (
    LETTERS, PromiseCase, doc_tree, name_at, nearly_trees, no_nodes, no_trees, odd_values, path_tree, sample_trees,
    side_of, snapshot, star_tree,
)


class Interface(unittest.TestCase):

    def test_each_function_is_defined_in_this_file(self):
        for name in ("is_name", "is_tree", "edges_of", "path_between", "direction", "with_leaf"):
            self.assertEqual(getattr(trees, name).__module__, "asklines.trees")
            self.assertEqual(getattr(trees, name).__name__, name)


class Names(PromiseCase):

    def test_example(self):
        self.assertEqual([is_name("ab"), is_name("Ab"), is_name("")], [True, False, False])

    def test_each_letter_alone(self):
        for letter in LETTERS:
            self.assertIs(self.told(is_name, letter), True)

    def test_lengths(self):
        for length in range(12):
            self.assertIs(self.told(is_name, "z" * length), 1 <= length <= 8)
        self.assertIs(self.told(is_name, LETTERS[:8]), True)
        self.assertIs(self.told(is_name, LETTERS[-9:]), False)
        self.assertIs(self.told(is_name, LETTERS), False)

    def test_each_other_sign_alone_and_in_each_place(self):
        for code in range(1000):
            sign = chr(code)
            for text in (sign, sign + "a", "a" + sign, "a" + sign + "a"):
                self.assertIs(is_name(text), sign in LETTERS, repr(text))

    def test_values_of_any_kind(self):
        for value in odd_values() + [["a"], doc_tree()]:
            with self.subTest(value=value):
                self.assertIs(self.told(is_name, value), False)


class Trees(PromiseCase):

    def test_example(self):
        self.assertEqual([is_tree({"p": []}), is_tree({"a": ["p"], "p": []})], [True, False])

    def test_trees(self):
        for tree in sample_trees():
            with self.subTest(tree=tree):
                self.assertIs(self.same_however_filled(is_tree, tree), True)

    def test_paths_and_stars_of_each_size(self):
        for nodes in range(1, 46):
            self.assertIs(is_tree(path_tree(nodes)), nodes <= 40)
            self.assertIs(is_tree(star_tree(nodes)), nodes <= 40)

    def test_nearly_trees(self):
        for what, value in nearly_trees():
            with self.subTest(what=what):
                self.assertIs(self.told(is_tree, value), False)

    def test_values_of_any_kind(self):
        for value in odd_values() + ["a", ["a"]]:
            with self.subTest(value=value):
                self.assertIs(self.told(is_tree, value), False)

    def test_any_value_in_place_of_a_list(self):
        for value in odd_values():
            for tree in ({"a": value}, {"a": value, "b": ["a"]}, {"a": ["b"], "b": value}):
                with self.subTest(tree=tree):
                    expected = len(tree) == 1 and isinstance(value, list) and len(value) == 0
                    self.assertIs(self.told(is_tree, tree), expected)

    def test_any_value_in_place_of_a_neighbour(self):
        for value in odd_values():
            for tree in ({"a": [value]}, {"a": ["b", value], "b": ["a"]}, {"a": ["b"], "b": [value]}):
                with self.subTest(tree=tree):
                    self.assertIs(self.told(is_tree, tree), False)

    def test_one_end_less_in_each_place(self):
        for node in doc_tree():
            for neighbour in doc_tree()[node]:
                tree = doc_tree()
                tree[node].remove(neighbour)
                self.assertIs(self.told(is_tree, tree), False)

    def test_one_edge_less_or_more(self):
        for tree in sample_trees():
            for node in tree:
                for other in sorted(tree)[:9]:
                    if node == other:
                        continue
                    changed = {key: set(tree[key]) for key in tree}
                    changed[node] ^= {other}
                    changed[other] ^= {node}
                    self.assertIs(is_tree({key: sorted(changed[key]) for key in changed}), False)


class Edges(PromiseCase):

    def test_example(self):
        self.assertEqual(self.told(edges_of, doc_tree()), [("a", "g"), ("a", "p"), ("b", "p")])

    def test_one_and_two_nodes(self):
        self.assertEqual(self.told(edges_of, {"p": []}), [])
        self.assertEqual(self.told(edges_of, {"p": ["b"], "b": ["p"]}), [("b", "p")])

    def test_all_pairs_of_neighbours(self):
        for tree in sample_trees():
            pairs = [(x, y) for x in tree for y in tree if x < y and y in tree[x]]
            self.assertEqual(self.same_however_filled(edges_of, tree), sorted(pairs))
            self.assertEqual(len(pairs), len(tree) - 1)

    def test_no_tree(self):
        for value in no_trees():
            with self.subTest(value=value):
                self.fails(NoTree, edges_of, value)


class Paths(PromiseCase):

    def test_examples(self):
        self.assertEqual(self.told(path_between, doc_tree(), "g", "b"), ["g", "a", "p", "b"])
        self.assertEqual([direction(doc_tree(), "a", "b"), direction(doc_tree(), "a", "a")], ["p", "a"])

    def test_from_a_node_to_itself(self):
        for tree in sample_trees():
            for node in tree:
                self.assertEqual(path_between(tree, node, node), [node])
                self.assertEqual(direction(tree, node, node), node)

    def test_along_a_path_of_40_nodes(self):
        tree, names = path_tree(40), [name_at(k) for k in range(40)]
        self.assertEqual(self.told(path_between, tree, names[0], names[39]), names)
        self.assertEqual(self.told(path_between, tree, names[39], names[0]), names[::-1])
        for k in range(40):
            for other in range(40):
                step = (other > k) - (other < k)
                expected = names[k:other + 1] if k <= other else names[other:k + 1][::-1]
                self.assertEqual(path_between(tree, names[k], names[other]), expected)
                self.assertEqual(direction(tree, names[k], names[other]), names[k + step])

    def test_in_a_star_of_40_nodes(self):
        tree, centre = star_tree(40), name_at(0)
        for node in tree:
            for other in tree:
                if centre in (node, other) or node == other:
                    expected = [node] if node == other else [node, other]
                else:
                    expected = [node, centre, other]
                self.assertEqual(path_between(tree, node, other), expected)
                self.assertEqual(direction(tree, node, other), expected[min(1, len(expected) - 1)])

    def test_paths_on_trees_of_many_shapes(self):
        for tree in sample_trees():
            for node in sorted(tree)[:6]:
                for other in tree:
                    path = self.told(path_between, tree, node, other)
                    self.assertEqual((path[0], path[-1]), (node, other))
                    self.assertTrue(all(path[k] in tree[path[k - 1]] for k in range(1, len(path))))
                    self.assertEqual(len(set(path)), len(path))
                    self.assertEqual(path_between(tree, other, node), path[::-1])

    def test_directions_lead_to_the_side_of_the_target(self):
        for tree in sample_trees():
            for node in sorted(tree)[:6]:
                for neighbour in tree[node]:
                    for other in side_of(tree, neighbour, node):
                        self.assertEqual(self.told(direction, tree, node, other), neighbour)

    def test_filled_otherwise(self):
        for tree in sample_trees():
            first, last = min(tree), max(tree)
            self.same_however_filled(path_between, tree, first, last)
            self.same_however_filled(direction, tree, last, first)

    def test_no_tree_comes_first(self):
        for function in (path_between, direction):
            for value in no_trees():
                for node, other in (("a", "p"), ("x", "p"), ("a", []), (None, {})):
                    with self.subTest(function=function, value=value):
                        self.fails(NoTree, function, value, node, other)

    def test_no_node(self):
        for function in (path_between, direction):
            for value in no_nodes():
                with self.subTest(function=function, value=value):
                    self.fails(NoNode, function, doc_tree(), value, "a")
                    self.fails(NoNode, function, doc_tree(), "a", value)
                    self.fails(NoNode, function, doc_tree(), value, value)
                    self.fails(NoNode, function, {"p": []}, "p", value)


class Leaves(PromiseCase):

    def test_examples(self):
        self.assertEqual(self.told(with_leaf, {"p": []}, "b", "p"), {"b": ["p"], "p": ["b"]})
        self.fails(Taken, with_leaf, {"p": []}, "p", "p")

    def test_a_leaf_at_each_node(self):
        for tree in sample_trees():
            for node in tree if len(tree) < 40 else []:
                for name in ("a", "k", "zzzzzzzz"):
                    if name in tree:
                        continue
                    grown = self.told(with_leaf, tree, name, node)
                    expected = {key: list(tree[key]) for key in tree}
                    expected[name] = [node]
                    expected[node] = sorted(expected[node] + [name])
                    self.assertEqual(grown, expected)
                    self.assertIs(is_tree(grown), True)

    def test_filled_otherwise(self):
        for tree in sample_trees():
            if len(tree) < 40:
                self.same_however_filled(with_leaf, tree, "xyz", max(tree))

    def test_the_fortieth_node_and_no_further(self):
        for tree in (path_tree(39), star_tree(39)):
            grown = self.told(with_leaf, tree, "xyz", name_at(0))
            self.assertEqual(len(grown), 40)
            error = self.fails(TooMany, with_leaf, grown, "xy", "xyz")
            self.assertEqual(error.many, 41)

    def test_no_tree(self):
        for value in no_trees():
            for name, neighbour in (("c", "a"), ("A", "a"), ("a", "a"), ("c", []), ([], {})):
                with self.subTest(value=value):
                    self.fails(NoTree, with_leaf, value, name, neighbour)

    def test_no_name(self):
        for tree in (doc_tree(), path_tree(40)):
            for value in odd_values() + [["a"], doc_tree()]:
                for neighbour in (min(tree), "x", None, []):
                    with self.subTest(value=value):
                        self.fails(NoName, with_leaf, tree, value, neighbour)

    def test_taken(self):
        for tree in (doc_tree(), {"p": []}, star_tree(40)):
            for name in tree:
                for neighbour in (min(tree), name, "x", None, []):
                    self.fails(Taken, with_leaf, tree, name, neighbour)

    def test_no_node(self):
        for tree in (doc_tree(), path_tree(40)):
            for value in no_nodes() + ["new"]:
                with self.subTest(value=value):
                    self.fails(NoNode, with_leaf, tree, "new", value)

    def test_all_errors_are_ask_errors(self):
        for values in (([], "c", "p"), ({"p": []}, "C", "p"), ({"p": []}, "p", "p"), ({"p": []}, "c", "x"),
                       (path_tree(40), "xy", name_at(0))):
            with self.assertRaises(AskError):
                with_leaf(*values)
            with self.assertRaises(ValueError):
                with_leaf(*values)


class ChangedArguments(PromiseCase):

    def test_a_leaf_added_in_place_counts_in_the_next_call(self):
        tree = {"a": ["p"], "p": ["a"]}
        self.assertEqual(edges_of(tree), [("a", "p")])
        self.fails(NoNode, path_between, tree, "c", "p")
        tree["a"].insert(0, "c")
        self.assertIs(is_tree(tree), False)
        self.fails(NoTree, direction, tree, "a", "p")
        tree["c"] = ["a"]
        self.assertIs(is_tree(tree), True)
        self.assertEqual(edges_of(tree), [("a", "c"), ("a", "p")])
        self.assertEqual(path_between(tree, "c", "p"), ["c", "a", "p"])
        self.assertEqual(direction(tree, "p", "c"), "a")
        self.assertEqual(with_leaf(tree, "d", "c"), {"a": ["c", "p"], "c": ["a", "d"], "d": ["c"], "p": ["a"]})

    def test_a_leaf_moved_in_place_counts_in_the_next_call(self):
        tree = {"a": ["b", "c"], "b": ["a"], "c": ["a"]}
        self.assertEqual(direction(tree, "b", "c"), "a")
        tree["a"].remove("c")
        tree["b"].append("c")
        tree["c"][0] = "b"
        self.assertEqual(direction(tree, "b", "c"), "c")
        self.assertEqual(edges_of(tree), [("a", "b"), ("b", "c")])

    def test_a_tree_changed_after_the_call_leaves_the_result(self):
        tree = doc_tree()
        grown, edges, path = with_leaf(tree, "c", "b"), edges_of(tree), path_between(tree, "g", "b")
        shown = snapshot([grown, edges, path])
        tree["p"].append("x")
        del tree["a"]
        self.assertEqual(snapshot([grown, edges, path]), shown)


if __name__ == "__main__":
    unittest.main()
