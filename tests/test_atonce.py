"""Tests of asklines/atonce.py (points 3, 5, 23 and 24)."""

import copy
import itertools
import math
import unittest

from asklines import atonce
from asklines.atonce import cheapest_order, count_orders, is_possible, least_messages, nth_order, rank_of
from asklines.errors import AskError, NoAskers, NoNode, NoNumber, NoOrder, NoTree
from asklines.lines import message_count
from asklines.nets import Net
from asklines.tocome import lines_to_come
from samples import (
    PromiseCase, asked, doc_tree, filled_otherwise, irregular_tree, name_at, nested, no_nodes, no_trees, numbers,
    odd_values, path_tree, sample_trees, slow_lines_to_come, snapshot, spoil, star_tree, tree_of,
)

DOC_ASKERS = ["a", "b", "g"]
OF_ASKERS = (count_orders, least_messages, cheapest_order)
OF_VALUE = (is_possible, nth_order, rank_of)


def paths_to(tree, holder):
    """A dict from each node to its path to the holder."""
    paths, found = {holder: [holder]}, [holder]
    for node in found:
        for other in tree[node]:
            if other not in paths:
                paths[other] = [other] + paths[node]
                found.append(other)
    return paths


def slow_possible(paths, askers, order):
    """Whether a list of all askers is a possible order, by the last sentence of point 23."""
    return all(order.index(asker) >= order.index(other)
               for asker in askers for other in askers if other in paths[asker])


def slow_orders(tree, holder, askers):
    """All possible orders, in ascending order."""
    paths = paths_to(tree, holder)
    return [list(order) for order in itertools.permutations(askers) if slow_possible(paths, askers, order)]


def slow_group(paths, askers, asker):
    return [other for other in askers if asker in paths[other]]


def slow_count(tree, holder, askers):
    """The number of possible orders by point 24."""
    paths = paths_to(tree, holder)
    return math.factorial(len(askers)) // math.prod(len(slow_group(paths, askers, asker)) for asker in askers)


def slow_rank(tree, holder, order):
    """The number of possible orders that are less, by how they begin."""
    paths, number = paths_to(tree, holder), 0
    for at, first in enumerate(order):
        left = order[at:]
        for other in left:
            if other < first and not any(node in left for node in paths[other][1:]):
                number += slow_count(tree, holder, [node for node in left if node != other])
    return number


def slow_messages(tree, holder, order):
    """The distances from each entry of the line to the one before, added up."""
    return sum(len(paths_to(tree, one)[two]) - 1 for one, two in zip([holder, *order], order))


def slow_least(tree, holder, askers):
    """The least number of messages by point 24."""
    paths = paths_to(tree, holder)
    edges = {frozenset(edge) for asker in askers for edge in zip(paths[asker], paths[asker][1:])}
    return 2 * len(edges) - max((len(paths[asker]) - 1 for asker in askers), default=0)


def all_askers(tree, most):
    """All lists of askers with at most so many."""
    return [list(row) for many in range(most + 1) for row in itertools.combinations(sorted(tree), many)]


def some_askers(tree, start, most):
    """Some lists of askers with at most so many, no and one asker among them."""
    nodes = sorted(tree)
    found = [[], nodes[:1], nodes[-1:], nodes[:most], nodes[-most:]]
    for at in range(6):
        found.append(sorted({nodes[k] for k in numbers(start + at, most, len(nodes))}))
    return found


def few_askers():
    """Trees, holders and at most five askers; the holder is one of them or not."""
    for tree in ({"p": []}, {"a": ["zz"], "zz": ["a"]}, path_tree(3), doc_tree()):
        for holder in tree:
            for askers in all_askers(tree, 4):
                yield tree, holder, askers
    for at, tree in enumerate((star_tree(6), path_tree(6), irregular_tree(1, 7), tree_of([0, 0, 1, 1, 2, 2]))):
        for holder in sorted(tree)[::2]:
            for askers in some_askers(tree, at + 7, 5):
                yield tree, holder, askers
    large = (path_tree(40), star_tree(40), irregular_tree(3, 40), tree_of([k // 2 for k in range(39)]))
    for at, tree in enumerate(large):
        for holder in sorted(tree)[at::19]:
            for askers in some_askers(tree, at + 70, 5)[::3]:
                yield tree, holder, sorted({*askers[:4], holder}) if at % 2 else askers


def many_askers():
    """Trees, holders and more askers, up to all nodes."""
    for at, tree in enumerate(sample_trees()):
        nodes = sorted(tree)
        for holder in nodes[at % 3::15]:
            yield tree, holder, nodes
            yield tree, holder, [node for node in nodes if node != holder]
            yield tree, holder, nodes[at % 2::2]
            yield tree, holder, sorted({nodes[k] for k in numbers(at + 90, 14, len(nodes))})


def changed_orders(order, tree):
    """Lists of nodes that miss being a possible order, or may miss it: reversed, exchanged, fewer or more entries."""
    yield order[::-1]
    for one, two in itertools.combinations(range(len(order)), 2):
        changed = list(order)
        changed[one], changed[two] = changed[two], changed[one]
        yield changed
    for at in range(len(order)):
        yield order[:at] + order[at + 1:]
        yield order[:at] + [order[at - 1]] + order[at + 1:]
        yield order[:at] + [order[at]] * 2 + order[at + 1:]
        yield order[:at] + ["x"] + order[at + 1:]
    for node in [*tree, "x"]:
        yield order + [node]
        yield [node] + order


def slow_is_possible(paths, askers, value):
    """Whether a list of strings is a possible order."""
    return sorted(value) == askers and slow_possible(paths, askers, value)


def lines_of(net):
    """All lines to which some order of deliveries leads a net of the package."""
    lines, waiting, seen = set(), [net], set()
    while waiting:
        now = waiting.pop()
        key = repr(now.local_logs())
        if key in seen:
            continue
        seen.add(key)
        if not now.pending():
            lines.add(tuple(now.request_line()))
        for sender, receiver, _ in now.pending():
            waiting.append(copy.deepcopy(now))
            waiting[-1].deliver(sender, receiver)
    return sorted(list(line) for line in lines)


def exchanged_askers():
    """Lists that miss being askers of the document's tree by their order alone."""
    return [["b", "a"], ["a", "g", "b"], ["b", "a", "g"], ["p", "g", "b", "a"]]


def no_rows():
    """Values that are no list of different nodes of the document's tree."""
    found = [value for value in odd_values() if not (isinstance(value, list) and len(value) == 0)]
    return found + [
        "p", "ab", "abg", (), ("a",), ("a", "b"), ("a", "b", "g"), {"a": 1, "b": 2}, {"a": []}, doc_tree(), {"a"},
        frozenset(["a", "b"]), ["a", "a"], ["a", "b", "b"], ["a", "b", "g", "g"], ["p", "p"], ["a", "b", "g", "p", "p"],
        ["a", "b", "g", "p", "a"], ["x"], ["a", "x"], ["a", "b", "c"], ["a", "b", "x"], ["A"], ["A", "a"], ["", "a"],
        ["a", ""], ["a", "b "], ["aa", "b"], ["a", None], [None], ["a", 1], ["a", True], ["a", ["b"]], [["a"]],
        [["a", "b"]], ["a", ("b",)], ["a", {}], ["a", b"b"], [b"a"], ["a-b"], ["a", []], ["p"] * 41, ["a", "b"] * 20,
        nested("a", 20), [nested("a", 19)],
    ]


def no_askers():
    """Values that are no askers of the document's tree."""
    return no_rows() + exchanged_askers()


class Interface(unittest.TestCase):

    def test_each_function_is_defined_in_this_file(self):
        for name in ("is_possible", "count_orders", "nth_order", "rank_of", "least_messages", "cheapest_order"):
            self.assertEqual(getattr(atonce, name).__module__, "asklines.atonce")
            self.assertEqual(getattr(atonce, name).__name__, name)


class Examples(PromiseCase):

    def test_is_possible(self):
        self.assertIs(self.told(is_possible, doc_tree(), "p", DOC_ASKERS, ["a", "b", "g"]), True)
        self.assertIs(self.told(is_possible, doc_tree(), "p", DOC_ASKERS, ["g", "a", "b"]), False)

    def test_numbers(self):
        self.assertEqual(self.told(count_orders, doc_tree(), "p", DOC_ASKERS), 3)
        self.assertEqual(self.told(count_orders, doc_tree(), "p", []), 1)
        self.assertEqual(self.told(nth_order, doc_tree(), "p", DOC_ASKERS, 0), ["a", "b", "g"])
        self.assertEqual(self.told(nth_order, doc_tree(), "p", DOC_ASKERS, 1), ["a", "g", "b"])
        self.assertEqual(self.told(rank_of, doc_tree(), "p", DOC_ASKERS, ["b", "a", "g"]), 2)

    def test_messages(self):
        self.assertEqual(self.told(least_messages, doc_tree(), "p", DOC_ASKERS), 4)
        self.assertEqual(self.told(cheapest_order, doc_tree(), "p", DOC_ASKERS), ["b", "a", "g"])


class Possible(PromiseCase):

    def test_all_orders_of_few_askers(self):
        kinds = {True: 0, False: 0}
        for tree, holder, askers in few_askers():
            expected = slow_orders(tree, holder, askers)
            for row in itertools.permutations(askers):
                told = is_possible(tree, holder, askers, list(row))
                self.assertIs(told, list(row) in expected)
                kinds[told] += 1
            self.assertIs(self.told(is_possible, tree, holder, askers, list(askers)), askers in expected)
        self.assertTrue(all(many > 1000 for many in kinds.values()), kinds)

    def test_orders_with_one_change(self):
        kinds = {True: 0, False: 0}
        for tree, holder, askers in itertools.islice(few_askers(), 0, None, 3):
            paths = paths_to(tree, holder)
            for order in slow_orders(tree, holder, askers)[::17]:
                self.assertIs(self.told(is_possible, tree, holder, askers, order), True)
                self.assertIs(self.told(is_possible, tree, holder, askers, tuple(order)), False)
                for changed in changed_orders(order, tree):
                    told = is_possible(tree, holder, askers, changed)
                    self.assertIs(told, slow_is_possible(paths, askers, changed))
                    kinds[told] += 1
        self.assertTrue(all(many > 100 for many in kinds.values()), kinds)

    def test_orders_of_many_askers_with_one_change(self):
        kinds = {True: 0, False: 0}
        for tree, holder, askers in itertools.islice(many_askers(), 0, None, 5):
            paths = paths_to(tree, holder)
            order = nth_order(tree, holder, askers, count_orders(tree, holder, askers) // 3)
            self.assertIs(self.told(is_possible, tree, holder, askers, order), True)
            for changed in itertools.islice(changed_orders(order, tree), 0, None, 9):
                told = is_possible(tree, holder, askers, changed)
                self.assertIs(told, slow_is_possible(paths, askers, changed))
                kinds[told] += 1
        self.assertTrue(all(many > 20 for many in kinds.values()), kinds)

    def test_each_asker_stands_behind_all_others_on_its_path(self):
        """Not only behind the nearest one, or those beside it on the tree."""
        tree = path_tree(40)
        names = [name_at(k) for k in range(40)]
        askers = sorted(names[k] for k in (3, 11, 39))
        for row in itertools.permutations(askers):
            order, downwards = list(row), [names[3], names[11], names[39]]
            self.assertIs(is_possible(tree, names[0], askers, order), order == downwards)
            self.assertIs(is_possible(tree, names[39], askers, order), order == downwards[::-1])
            self.assertIs(is_possible(tree, names[11], askers, order), order[0] == names[11])

    def test_the_holder_as_an_asker_stands_first(self):
        for tree in sample_trees():
            nodes = sorted(tree)
            for holder in nodes[::8]:
                order = [node for node in nodes if node != holder][:1]
                askers = sorted([holder, *order])
                self.assertIs(is_possible(tree, holder, askers, [holder, *order]), True)
                if order:
                    self.assertIs(is_possible(tree, holder, askers, [*order, holder]), False)
                self.assertIs(self.told(is_possible, tree, holder, [holder], [holder]), True)
                self.assertIs(is_possible(tree, holder, [holder], []), False)

    def test_no_askers_have_the_empty_order(self):
        for tree in sample_trees():
            for value, told in (([], True), ((), False), ({}, False), ("", False), (None, False), ([max(tree)], False)):
                self.assertIs(self.told(is_possible, tree, min(tree), [], value), told)

    def test_values_of_any_kind(self):
        for value in no_rows():
            for askers in ([], ["a"], ["a", "b"], DOC_ASKERS, ["a", "b", "g", "p"]):
                with self.subTest(value=value, askers=askers):
                    self.assertIs(self.told(is_possible, doc_tree(), "p", askers, value), False)

    def test_any_value_as_an_entry(self):
        for value in odd_values() + ["x", ["a"], ("a",), "p"]:
            for row in ([value], [value, "b", "g"], ["a", value, "g"], ["a", "b", value], ["a", "b", "g", value]):
                with self.subTest(row=row):
                    self.assertIs(self.told(is_possible, doc_tree(), "p", DOC_ASKERS, row), False)


class LinesThatCome(PromiseCase):
    """Possible orders are those of the lines that can come."""

    def test_deliveries_in_every_order(self):
        for tree, holder, askers in few_askers():
            if len(tree) <= 7:
                net = asked(tree, holder, askers)
                expected = [[holder, *order] for order in slow_orders(tree, holder, askers)]
                self.assertEqual(slow_lines_to_come(net), expected)

    def test_deliveries_in_every_order_in_the_net_of_the_package(self):
        for tree, holder, askers in itertools.islice(few_askers(), 0, None, 5):
            if len(tree) <= 7:
                net = Net(tree, holder)
                for node in askers:
                    net.ask(node)
                lines = lines_of(net)
                self.assertEqual(len(lines), count_orders(tree, holder, askers))
                for number, line in enumerate(lines):
                    self.assertEqual(line[0], holder)
                    self.assertIs(is_possible(tree, holder, askers, line[1:]), True)
                    self.assertEqual(nth_order(tree, holder, askers, number), line[1:])

    def test_the_lines_that_tocome_tells(self):
        for tree, holder, askers in few_askers():
            logs = {node: [node] if node in askers else [] for node in tree}
            expected = [[holder, *order] for order in slow_orders(tree, holder, askers)]
            self.assertEqual(lines_to_come(tree, holder, logs), expected)

    def test_any_order_in_which_the_askers_ask(self):
        for row in itertools.permutations(["a", "b", "g", "p"]):
            expected = [["p", *order] for order in slow_orders(doc_tree(), "p", ["a", "b", "g", "p"])]
            self.assertEqual(slow_lines_to_come(asked(doc_tree(), "p", row)), expected)


class Counts(PromiseCase):

    def test_few_askers(self):
        for tree, holder, askers in few_askers():
            self.assertEqual(self.told(count_orders, tree, holder, askers), len(slow_orders(tree, holder, askers)))

    def test_many_askers(self):
        for tree, holder, askers in many_askers():
            self.assertEqual(self.told(count_orders, tree, holder, askers), slow_count(tree, holder, askers))

    def test_a_star_with_39_leaves(self):
        tree, leaves = star_tree(40), sorted(name_at(k) for k in range(1, 40))
        self.assertEqual(self.told(count_orders, tree, name_at(0), leaves), math.factorial(39))
        self.assertEqual(self.told(count_orders, tree, name_at(0), sorted(tree)), math.factorial(39))
        # The leaf that holds is first or does not ask; the centre is before the others or does not ask.
        self.assertEqual(self.told(count_orders, tree, leaves[0], sorted(tree)), math.factorial(38))
        self.assertEqual(self.told(count_orders, tree, leaves[0], leaves[1:]), math.factorial(38))
        self.assertEqual(self.told(count_orders, tree, leaves[0], leaves), math.factorial(38))

    def test_a_path_of_40_nodes(self):
        tree, names = path_tree(40), [name_at(k) for k in range(40)]
        self.assertEqual(self.told(count_orders, tree, names[0], sorted(tree)), 1)
        self.assertEqual(self.told(count_orders, tree, names[20], sorted(tree)), math.comb(39, 19))

    def test_no_askers_and_one(self):
        for tree in sample_trees():
            self.assertEqual(self.told(count_orders, tree, min(tree), []), 1)
            for node in sorted(tree)[::6]:
                self.assertEqual(self.told(count_orders, tree, min(tree), [node]), 1)


class Numbers(PromiseCase):

    def test_every_number_of_few_askers(self):
        for tree, holder, askers in few_askers():
            expected = slow_orders(tree, holder, askers)
            self.assertEqual([nth_order(tree, holder, askers, k) for k in range(len(expected))], expected)
            self.assertEqual([rank_of(tree, holder, askers, order) for order in expected], list(range(len(expected))))
            for number in {0, len(expected) // 2, len(expected) - 1}:
                self.assertEqual(self.told(nth_order, tree, holder, askers, number), expected[number])
                self.assertEqual(self.told(rank_of, tree, holder, askers, expected[number]), number)
            for number in (-1, len(expected), len(expected) + 1):
                self.fails(NoNumber, nth_order, tree, holder, askers, number)

    def test_numbers_of_many_askers(self):
        large = 0
        for tree, holder, askers in many_askers():
            many, paths = slow_count(tree, holder, askers), paths_to(tree, holder)
            chosen = {0, 1, 2, many // 2, many // 3, many - many // 7, many - 3, many - 2, many - 1}
            chosen = sorted(number for number in chosen | {2 ** 63, 2 ** 64 + 1} if 0 <= number < many)
            large += sum(number > 2 ** 63 for number in chosen)
            orders = [nth_order(tree, holder, askers, number) for number in chosen]
            self.assertTrue(all(one < two for one, two in zip(orders, orders[1:])))
            self.assertEqual([rank_of(tree, holder, askers, order) for order in orders], chosen)
            for order in orders:
                self.assertTrue(slow_is_possible(paths, askers, order))
            self.assertEqual([slow_rank(tree, holder, order) for order in orders[::4]], chosen[::4])
            self.assertEqual(self.told(nth_order, tree, holder, askers, chosen[-1]), orders[-1])
            self.assertEqual(self.told(rank_of, tree, holder, askers, orders[-1]), chosen[-1])
            for number in (-1, many, many + 1):
                self.fails(NoNumber, nth_order, tree, holder, askers, number)
        self.assertGreater(large, 50)

    def test_the_first_and_the_last_of_a_star_with_39_leaves(self):
        tree, leaves = star_tree(40), sorted(name_at(k) for k in range(1, 40))
        many = math.factorial(39)
        self.assertEqual(self.told(nth_order, tree, name_at(0), leaves, 0), leaves)
        self.assertEqual(self.told(nth_order, tree, name_at(0), leaves, many - 1), leaves[::-1])
        self.assertEqual(self.told(rank_of, tree, name_at(0), leaves, leaves[::-1]), many - 1)
        self.assertEqual(self.told(nth_order, tree, name_at(0), leaves, math.factorial(38)),
                         [leaves[1], leaves[0], *leaves[2:]])

    def test_no_number(self):
        for tree, holder, askers in ((doc_tree(), "p", DOC_ASKERS), ({"p": []}, "p", []), ({"p": []}, "p", ["p"]),
                                     (star_tree(40), name_at(0), sorted(star_tree(40)))):
            many = slow_count(tree, holder, askers)
            values = odd_values() + [-1, -many, many, many + 1, 10 ** 60, -10 ** 60, True, False, None, "0", "1", b"0",
                                     "", [0], (0,), {0: 0}, {"0": 0}, [], (), {}, askers, nested(0, 20), range(3)]
            for value in values:
                if type(value) is not int or not 0 <= value < many:
                    with self.subTest(value=value):
                        self.fails(NoNumber, nth_order, tree, holder, askers, value)

    def test_no_order(self):
        for value in no_rows():
            for askers in ([], ["a"], ["a", "b"], DOC_ASKERS):
                with self.subTest(value=value, askers=askers):
                    self.fails(NoOrder, rank_of, doc_tree(), "p", askers, value)
        for value in (["a"], ["b"], ["a", "b"], ["g", "b"], ["g", "a", "b"], ["b", "g", "a"], ["g", "b", "a"],
                      ["p", "a", "b", "g"], ["p"], []):
            self.fails(NoOrder, rank_of, doc_tree(), "p", DOC_ASKERS, value)

    def test_no_order_where_an_order_is_not_possible(self):
        kinds = {True: 0, False: 0}
        for tree, holder, askers in itertools.islice(few_askers(), 0, None, 5):
            expected = slow_orders(tree, holder, askers)
            self.fails(NoOrder, rank_of, tree, holder, askers, tuple(expected[0]))
            for changed in changed_orders(expected[-1], tree):
                kinds[changed in expected] += 1
                if changed in expected:
                    self.assertEqual(rank_of(tree, holder, askers, changed), expected.index(changed))
                else:
                    self.fails(NoOrder, rank_of, tree, holder, askers, changed)
        self.assertTrue(all(many > 50 for many in kinds.values()), kinds)


class Messages(PromiseCase):

    def test_few_askers(self):
        for tree, holder, askers in few_askers():
            costs = [slow_messages(tree, holder, order) for order in slow_orders(tree, holder, askers)] \
                if len(tree) <= 7 else [slow_least(tree, holder, askers)]
            self.assertEqual(self.told(least_messages, tree, holder, askers), min(costs))
            self.check_cheapest(tree, holder, askers, min(costs))

    def check_cheapest(self, tree, holder, askers, least):
        order = self.told(cheapest_order, tree, holder, askers)
        self.assertTrue(slow_is_possible(paths_to(tree, holder), askers, order))
        self.assertEqual(slow_messages(tree, holder, order), least)
        self.assertEqual(message_count(tree, [holder, *order]), least)

    def test_few_askers_on_trees_of_40_nodes(self):
        for tree, holder, askers in few_askers():
            if len(tree) == 40:
                orders = slow_orders(tree, holder, askers)
                distances = {node: paths_to(tree, node) for node in [holder, *askers]}
                costs = [sum(len(distances[one][two]) - 1 for one, two in zip([holder, *order], order))
                         for order in orders]
                self.assertEqual(least_messages(tree, holder, askers), min(costs))

    def test_many_askers(self):
        for tree, holder, askers in many_askers():
            least = slow_least(tree, holder, askers)
            self.assertEqual(self.told(least_messages, tree, holder, askers), least)
            self.check_cheapest(tree, holder, askers, least)
            if len(askers) > 3:
                for number in numbers(len(askers), 4, count_orders(tree, holder, askers)):
                    order = nth_order(tree, holder, askers, number)
                    self.assertGreaterEqual(slow_messages(tree, holder, order), least)

    def test_no_askers_and_one(self):
        for tree in sample_trees():
            paths = paths_to(tree, min(tree))
            self.assertEqual(self.told(least_messages, tree, min(tree), []), 0)
            self.assertEqual(self.told(cheapest_order, tree, min(tree), []), [])
            for node in sorted(tree)[::6]:
                self.assertEqual(self.told(least_messages, tree, min(tree), [node]), len(paths[node]) - 1)
                self.assertEqual(self.told(cheapest_order, tree, min(tree), [node]), [node])

    def test_a_star_and_a_path(self):
        tree = star_tree(40)
        self.assertEqual(self.told(least_messages, tree, name_at(0), sorted(tree)), 77)
        self.assertEqual(self.told(least_messages, tree, name_at(1), sorted(tree)), 76)
        tree, names = path_tree(40), [name_at(k) for k in range(40)]
        self.assertEqual(self.told(least_messages, tree, names[0], sorted(tree)), 39)
        self.assertEqual(self.told(cheapest_order, tree, names[0], sorted(tree)), names)
        self.assertEqual(self.told(least_messages, tree, names[10], sorted(tree)), 49)
        self.assertEqual(self.told(cheapest_order, tree, names[10], sorted(tree)), names[10::-1] + names[11:])
        self.assertEqual(self.told(cheapest_order, tree, names[30], sorted(tree)), names[30:] + names[29::-1])

    def test_equal_arguments_however_filled(self):
        for tree, holder, askers in itertools.islice(many_askers(), 0, None, 3):
            order = self.same_however_filled(cheapest_order, tree, holder, askers)
            for _ in range(3):
                self.assertEqual(cheapest_order(copy.deepcopy(tree), holder, list(askers)), order)


class Arguments(PromiseCase):

    def test_however_the_tree_is_filled(self):
        for tree, holder, askers in itertools.islice(many_askers(), 0, None, 7):
            number = count_orders(tree, holder, askers) * 2 // 3
            order = self.same_however_filled(nth_order, tree, holder, askers, number)
            self.assertEqual(self.same_however_filled(rank_of, tree, holder, askers, order), number)
            self.same_however_filled(is_possible, tree, holder, askers, order)
            self.same_however_filled(count_orders, tree, holder, askers)
            self.same_however_filled(least_messages, tree, holder, askers)

    def test_the_same_list_as_askers_and_as_the_order(self):
        askers = ["a", "b", "g"]
        self.assertIs(is_possible(doc_tree(), "p", askers, askers), True)
        self.assertEqual(rank_of(doc_tree(), "p", askers, askers), 0)
        self.assertEqual(askers, ["a", "b", "g"])
        held = nth_order(doc_tree(), "p", askers, 0)
        self.assertIsNot(held, askers)

    def test_arguments_changed_after_the_call_leave_the_result(self):
        tree, askers = doc_tree(), ["a", "b", "g"]
        held = [nth_order(tree, "p", askers, 0), nth_order(tree, "p", askers, 2), cheapest_order(tree, "p", askers)]
        shown = snapshot(held)
        spoil([tree, askers])
        self.assertEqual(snapshot(held), shown)

    def test_arguments_changed_in_place_count_in_the_next_call(self):
        tree, askers = doc_tree(), ["a", "b"]
        self.assertEqual(count_orders(tree, "p", askers), 2)
        askers.append("g")
        self.assertEqual(count_orders(tree, "p", askers), 3)
        self.assertEqual(nth_order(tree, "p", askers, 2), ["b", "a", "g"])
        tree["a"], tree["b"], tree["g"] = ["p"], ["g", "p"], ["b"]
        self.assertEqual(nth_order(tree, "p", askers, 2), ["b", "g", "a"])
        self.assertEqual(least_messages(tree, "p", askers), 4)
        askers.append("b")
        self.fails(NoAskers, count_orders, tree, "p", askers)


class Errors(PromiseCase):

    def fail_all(self, error, tree, holder, askers, values):
        for function in OF_ASKERS:
            self.fails(error, function, tree, holder, askers)
        for function in OF_VALUE:
            for value in values:
                self.fails(error, function, tree, holder, askers, value)

    def test_no_tree_comes_first(self):
        for value in no_trees():
            for holder, askers in (("p", ["a"]), ("x", ["x"]), ("a", []), (None, None), ([], {})):
                with self.subTest(value=value):
                    self.fail_all(NoTree, value, holder, askers, (0, ["a"], None, -1))

    def test_no_holder_comes_next(self):
        for value in no_nodes():
            for askers in (["a", "b", "g"], [], ["x"], ["b", "a"], None, {}):
                with self.subTest(value=value):
                    self.fail_all(NoNode, doc_tree(), value, askers, (0, ["a", "b", "g"], None, -1))

    def test_no_askers_come_before_the_own_error(self):
        for value in no_askers():
            with self.subTest(value=value):
                for holder in ("p", "g"):
                    self.fail_all(NoAskers, doc_tree(), holder, value, (0, ["a", "b", "g"], None, -1, value, []))

    def test_any_value_as_an_asker(self):
        for value in odd_values() + ["x", ["a"], ("a",)]:
            for askers in ([value], ["a", value], [value, "p"], ["a", value, "p"]):
                with self.subTest(askers=askers):
                    self.fail_all(NoAskers, doc_tree(), "p", askers, (0, []))

    def test_askers_of_40_nodes(self):
        tree = star_tree(40)
        nodes = sorted(tree)
        for at in range(0, 39, 5):
            exchanged = nodes[:at] + [nodes[at + 1], nodes[at]] + nodes[at + 2:]
            for askers in (exchanged, nodes[:at] + [nodes[at]] * 2 + nodes[at + 1:], tuple(nodes)):
                self.fail_all(NoAskers, tree, nodes[3], askers, (0, nodes))

    def test_all_errors_are_ask_errors(self):
        for function, *values in ((count_orders, None, "p", []), (count_orders, doc_tree(), "x", []),
                                  (count_orders, doc_tree(), "p", ()), (nth_order, doc_tree(), "p", [], 1),
                                  (rank_of, doc_tree(), "p", [], ())):
            for error in (AskError, ValueError):
                with self.assertRaises(error):
                    function(*values)

    def test_an_error_has_no_effect_on_later_calls(self):
        shown = snapshot([nth_order(doc_tree(), "p", DOC_ASKERS, k) for k in range(3)])
        self.fails(NoNumber, nth_order, doc_tree(), "p", DOC_ASKERS, 3)
        self.fails(NoOrder, rank_of, doc_tree(), "p", DOC_ASKERS, ["g"])
        self.assertEqual(snapshot([nth_order(doc_tree(), "p", DOC_ASKERS, k) for k in range(3)]), shown)


if __name__ == "__main__":
    unittest.main()
