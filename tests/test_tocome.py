"""Tests of asklines/tocome.py (points 3, 4, 5 and 22)."""

import itertools
import unittest

from asklines import tocome
from asklines.errors import AskError, Blocked, Clash, NoLine, NoLogs, NoNode, NoTree, TooMany
from asklines.lines import views
from asklines.nets import Net
from asklines.tocome import blocker, deliveries, lines_to_come
from samples import (
    PromiseCase, SlowNet, any_of, asked, doc_tree, filled_otherwise, first_of, irregular_tree, last_of, name_at, nested,
    no_nodes, no_trees, numbers, odd_values, path_tree, sample_trees, slow_blocker, slow_lines_to_come, slow_run,
    slow_view, snapshot, spoil, star_tree, tree_of,
)

OF_LINE = (blocker, deliveries)


def doc_start():
    """The logs of the document's examples: three nodes asked, nothing arrived."""
    return {"a": ["a"], "b": ["b"], "g": ["g"], "p": []}


def doc_clash():
    return {"a": ["g"], "b": [], "g": [], "p": []}


def no_logs():
    """Values that are no proper logs for the document's tree and holder."""
    found = odd_values() + ["p", ["p"], doc_tree(), [doc_start()], list(doc_start().items())]
    for node, log in (("a", ["p"]), ("b", ["p"]), ("p", ["a", "a"]), ("p", ["g"]), ("a", ("a",)), ("p", ()), ("p", {}),
                      ("a", ["a", None]), ("g", "g"), ("p", ["p"] * 401), ("p", None), ("x", []), (1, [])):
        found.append({**doc_start(), node: log})
    return found


def no_lines():
    """Values that are no line of the document's tree with the holder p at its beginning."""
    return odd_values() + [
        "p", "pabg", ("p",), ("p", "a", "b", "g"), {"p": "a"}, ["x"], ["p", "x"], ["a"], ["a", "p"], ["b", "p", "a"],
        ["g"] * 400, ["p"] * 401, ["p", "a"] * 300, ["p", None], ["p", ["a"]], ["p", "A"], [["p"]],
        ["a", "p", "b", "g"], doc_start(), doc_tree(), nested("p", 20),
    ]


def slow_deliveries(net, line):
    """The deliveries that point 22's second half describes, step by step."""
    now, found = net.copied(), []
    seen = {node: slow_view(net.tree, line, node) for node in net.tree}
    while now.messages:
        for sender, receiver, _ in now.pending():
            if seen[receiver][len(now.logs[receiver]):][:1] == [sender]:
                break
        now.deliver(sender, receiver)
        found.append((sender, receiver))
    return found


def changed_lines(line, tree):
    """The line with two entries exchanged, one more, one less, another one, or another holder."""
    for one, two in itertools.combinations(range(len(line)), 2):
        changed = list(line)
        changed[one], changed[two] = changed[two], changed[one]
        yield changed
    for at in range(1, len(line) + 1):
        for node in sorted(tree)[:3]:
            yield line[:at] + [node] + line[at:]
    for at in range(1, len(line)):
        yield line[:at] + line[at + 1:]
        yield line[:at] + [min(tree)] + line[at + 1:]
    for node in tree:
        yield [node] + line[1:]


def small_nets():
    """Slow nets on small trees, with up to six messages under way, at many moments of runs."""
    trees = [doc_tree(), {"p": []}, {"a": ["zz"], "zz": ["a"]}, path_tree(3), path_tree(5), star_tree(5),
             tree_of([0, 0, 1, 1, 2]), tree_of([0, 1, 0, 3, 0, 5, 6])]
    for at, tree in enumerate(trees):
        for pick in (first_of, any_of, last_of):
            for k, (name, _, _, net) in enumerate(slow_run(tree, max(tree), at + 50, 60, pick)):
                if name == "ask" and k % 4 == 0 and len(net.messages) <= 6:
                    yield net


class ToComeCase(PromiseCase):

    def check_deliveries(self, net, line):
        """Check the deliveries that lead to a line which can come."""
        told = self.told(deliveries, net.tree, net.holder, net.logs, line)
        self.assertEqual(told, slow_deliveries(net, line))
        now = net.copied()
        for sender, receiver in told:
            now.deliver(sender, receiver)
        self.assertEqual(now.line(), line)

    def check_blocked(self, net, line, node):
        """Check what the functions tell of a line that can't come."""
        self.assertEqual(blocker(net.tree, net.holder, net.logs, line), node)
        self.assertEqual(self.fails(Blocked, deliveries, net.tree, net.holder, net.logs, line).node, node)


class Interface(unittest.TestCase):

    def test_each_function_is_defined_in_this_file(self):
        for name in ("blocker", "deliveries", "lines_to_come"):
            self.assertEqual(getattr(tocome, name).__module__, "asklines.tocome")
            self.assertEqual(getattr(tocome, name).__name__, name)


class Examples(PromiseCase):

    def test_blocker(self):
        self.assertEqual(self.told(blocker, doc_tree(), "p", doc_start(), ["p", "b", "g", "a"]), "a")
        self.assertIsNone(self.told(blocker, doc_tree(), "p", doc_start(), ["p", "b", "a", "g"]))

    def test_deliveries(self):
        expected = [("a", "p"), ("b", "p"), ("p", "a"), ("g", "a"), ("a", "p"), ("p", "b")]
        self.assertEqual(self.told(deliveries, doc_tree(), "p", doc_start(), ["p", "a", "b", "g"]), expected)
        caught = self.fails(Blocked, deliveries, doc_tree(), "p", doc_start(), ["p", "b", "g", "a"])
        self.assertEqual(caught.node, "a")

    def test_lines_to_come(self):
        expected = [["p", "a", "b", "g"], ["p", "a", "g", "b"], ["p", "b", "a", "g"]]
        self.assertEqual(self.told(lines_to_come, doc_tree(), "p", doc_start()), expected)


class AllOrders(ToComeCase):
    """Comparisons with a search through all orders of deliveries."""

    def test_lines_to_come(self):
        counts = set()
        for net in small_nets():
            expected = slow_lines_to_come(net)
            counts.add(len(net.messages))
            self.assertEqual(self.told(lines_to_come, net.tree, net.holder, net.logs), expected)
        self.assertTrue({0, 1, 2, 3, 4} <= counts, counts)

    def test_lines_that_come(self):
        for net in small_nets():
            for line in slow_lines_to_come(net)[::7]:
                self.assertIsNone(self.told(blocker, net.tree, net.holder, net.logs, line))
                self.check_deliveries(net, line)

    def test_lines_with_one_change(self):
        kinds = {True: 0, False: 0}
        for net in itertools.islice(small_nets(), 0, None, 3):
            lines = slow_lines_to_come(net)
            if len(lines[0]) > 12:
                continue
            for line in changed_lines(lines[-1], net.tree):
                if line[0] != net.holder:
                    for function in OF_LINE:
                        self.fails(NoLine, function, net.tree, net.holder, net.logs, line)
                    continue
                kinds[line in lines] += 1
                node = slow_blocker(net.tree, net.logs, line)
                self.assertIs(node is None, line in lines)
                if node is None:
                    self.assertIsNone(blocker(net.tree, net.holder, net.logs, line))
                    self.check_deliveries(net, line)
                else:
                    self.check_blocked(net, line, node)
        self.assertTrue(all(many > 50 for many in kinds.values()), kinds)

    def test_all_rows_of_the_same_nodes(self):
        """Each order of the entries can come if and only if the search finds it."""
        for tree, holder, nodes in ((doc_tree(), "p", "agb"), (doc_tree(), "g", "pab"), (doc_tree(), "a", "aabp"),
                                    (star_tree(4), name_at(0), [name_at(1), name_at(2), name_at(3)]),
                                    (path_tree(4), name_at(1), [name_at(0), name_at(3), name_at(2)])):
            net = asked(tree, holder, nodes)
            lines = slow_lines_to_come(net)
            for row in set(itertools.permutations(nodes)):
                line = [holder, *row]
                node = slow_blocker(tree, net.logs, line)
                self.assertIs(node is None, line in lines)
                self.assertEqual(self.told(blocker, tree, holder, net.logs, line), node)

    def test_however_filled(self):
        for net in itertools.islice(small_nets(), 0, None, 5):
            line = slow_lines_to_come(net)[0]
            for logs in (net.logs, *filled_otherwise(net.logs)):
                self.same_however_filled(lines_to_come, net.tree, net.holder, logs)
                self.same_however_filled(deliveries, net.tree, net.holder, logs, line)
                self.same_however_filled(blocker, net.tree, net.holder, logs, line[:-1] or line)


class Moments(ToComeCase):

    def test_a_settled_net_has_one_line_to_come(self):
        for at, tree in enumerate(sample_trees()):
            for *_, net in slow_run(tree, min(tree), at + 71, 50):
                pass
            net.settle()
            line = net.line()
            self.assertEqual(self.told(lines_to_come, net.tree, net.holder, net.logs), [line])
            self.assertIsNone(self.told(blocker, net.tree, net.holder, net.logs, line))
            self.assertEqual(self.told(deliveries, net.tree, net.holder, net.logs, line), [])

    def test_the_line_that_comes_is_among_them_at_every_moment(self):
        for at, tree in enumerate(sample_trees()):
            net = SlowNet(tree, min(tree))
            for node in sorted(tree)[:6] * 2:
                net.ask(node)
            later = net.copied()
            many = later.settle()
            line = later.line()
            for k in range(many):
                if k % 9 == 0:
                    self.assertIsNone(blocker(tree, net.holder, net.logs, line))
                    self.assertIn(line, lines_to_come(tree, net.holder, net.logs))
                    self.check_deliveries(net, line)
                net.deliver(*net.pending()[0][:2])
            self.assertEqual(net.line(), line)

    def test_the_deliveries_on_a_net_of_40_nodes(self):
        for tree in sample_trees()[5:]:
            for pick in (first_of, last_of):
                net = asked(tree, max(tree), [*tree, max(tree)])
                later = net.copied()
                while later.messages:
                    later.deliver(*pick(later.pending(), 0)[:2])
                self.check_deliveries(net, later.line())

    def test_the_deliveries_carried_out_on_the_net_of_the_package(self):
        net = Net(doc_tree(), "p")
        for node in ("a", "b", "g"):
            net.ask(node)
        for line in lines_to_come(doc_tree(), "p", net.local_logs()):
            other = Net(doc_tree(), "p")
            for node in ("a", "b", "g"):
                other.ask(node)
            for sender, receiver in deliveries(doc_tree(), "p", net.local_logs(), line):
                other.deliver(sender, receiver)
            self.assertEqual(other.request_line(), line)

    def test_two_messages_that_left_the_same_node(self):
        net = asked(doc_tree(), "p", ["g"])
        net.deliver("g", "a")
        net.ask("a")
        self.assertEqual(net.pending(), [("a", "g", ("a", 1)), ("a", "p", ("g", 1))])
        net.ask("b")
        expected = slow_lines_to_come(net)
        self.assertEqual(self.told(lines_to_come, doc_tree(), "p", net.logs), expected)
        for row in itertools.permutations("abg"):
            line = ["p", *row]
            if line in expected:
                self.check_deliveries(net, line)
            else:
                self.check_blocked(net, line, slow_blocker(doc_tree(), net.logs, line))

    def test_the_least_node_that_does_not_fit(self):
        for line, node in ((["p"], "a"), (["p", "p", "a", "b", "g"], "p"), (["p", "a", "b"], "g"),
                           (["p", "a", "g"], "b"), (["p", "b", "g", "a"], "a"), (["p", "g", "a", "b"], "a"),
                           (["p", "a", "b", "g", "g"], "g"), (["p", "a", "b", "b", "g"], "b"),
                           (["p", "a", "b", "g", "a"], "a")):
            with self.subTest(line=line):
                self.assertEqual(slow_blocker(doc_tree(), doc_start(), line), node)
                self.assertEqual(self.told(blocker, doc_tree(), "p", doc_start(), line), node)
                caught = self.fails(Blocked, deliveries, doc_tree(), "p", doc_start(), line)
                self.assertEqual(caught.node, node)

    def test_a_node_whose_log_is_longer_than_its_view(self):
        logs = {"a": ["a"], "b": [], "g": [], "p": ["a"]}
        self.assertEqual(self.told(blocker, doc_tree(), "p", logs, ["p"]), "a")
        logs = {"a": ["g"], "b": [], "g": ["g"], "p": ["a"]}
        self.assertEqual(self.told(blocker, doc_tree(), "p", logs, ["p"]), "a")
        self.assertIsNone(self.told(blocker, doc_tree(), "p", logs, ["p", "g"]))


class ManyMessages(ToComeCase):

    def check_all(self, net):
        expected = slow_lines_to_come(net)
        self.assertEqual(self.told(lines_to_come, net.tree, net.holder, net.logs), expected)
        for line in expected[::max(1, len(expected) // 5)]:
            self.check_deliveries(net, line)

    def test_no_message_and_one(self):
        for tree in sample_trees():
            net = SlowNet(tree, min(tree))
            self.assertEqual(self.told(lines_to_come, tree, min(tree), net.logs), [[min(tree)]])
            if len(tree) > 1:
                net.ask(max(tree))
                expected = [[min(tree), max(tree)]]
                self.assertEqual(self.told(lines_to_come, tree, min(tree), net.logs), expected)

    def test_six_messages_to_the_middle_of_a_star_of_40_nodes(self):
        leaves = [name_at(k) for k in range(3, 9)]
        net = asked(star_tree(40), name_at(0), leaves)
        told = self.told(lines_to_come, net.tree, net.holder, net.logs)
        self.assertEqual(told, [[name_at(0), *row] for row in sorted(itertools.permutations(leaves))])
        self.assertEqual(len(told), 720)
        self.check_all(net)

    def test_six_messages_along_a_path_of_40_nodes(self):
        tree = path_tree(40)
        names = [name_at(k) for k in range(40)]
        net = asked(tree, names[0], names[5:40:6])
        self.assertEqual(len(net.messages), 6)
        told = self.told(lines_to_come, tree, names[0], net.logs)
        self.assertEqual(told, [[names[0], *names[5:40:6]]])
        net = asked(tree, names[20], [names[k] for k in (2, 9, 15, 24, 30, 39)])
        told = self.told(lines_to_come, tree, names[20], net.logs)
        self.assertEqual(len(told), 20)
        for row in told:
            self.assertEqual([node for node in row if names.index(node) < 20], [names[15], names[9], names[2]])
            self.assertEqual([node for node in row if names.index(node) > 20], [names[24], names[30], names[39]])
        for line in told:
            self.check_deliveries(net, line)

    def test_six_messages_with_long_segments(self):
        tree = star_tree(40)
        leaves = [name_at(k) for k in range(1, 7)]
        net = asked(tree, name_at(0), [name_at(0)] * 39 + leaves * 60)
        self.assertEqual(len(net.messages), 6)
        told = self.told(lines_to_come, tree, name_at(0), net.logs)
        expected = [[name_at(0)] * 40 + [node for leaf in row for node in [leaf] * 60]
                    for row in itertools.permutations(leaves)]
        self.assertEqual(told, sorted(expected))
        self.assertEqual({len(line) for line in told}, {400})
        self.check_deliveries(net, told[300])
        self.check_blocked(net, told[300][:-1], max(told[300][-1:]))

    def test_six_messages_in_the_middle_of_runs(self):
        """Each row of the segments can come if and only if all logs are prefixes of its views."""
        counts = []
        for at, tree in enumerate((path_tree(8), star_tree(7), irregular_tree(4, 8), irregular_tree(9, 12))):
            net = asked(tree, min(tree), tree)
            for number in numbers(at + 3, 60, 9973):
                if len(net.messages) > 6 or net.messages and number % 3 == 0:
                    net.deliver(*any_of(net.pending(), number)[:2])
                else:
                    net.ask(any_of(sorted(tree), number))
                if len(net.messages) == 6 and number % 5 == 0:
                    counts.append(self.compare_with_the_views(net))
        self.assertTrue(any(2 < count < 720 for count in counts), counts)

    def compare_with_the_views(self, net):
        first, *others = net.segments()
        expected = []
        for row in itertools.permutations(others):
            line = [node for segment in [first, *row] for node, _ in segment]
            seen = views(net.tree, line)
            if all(seen[node][:len(net.logs[node])] == net.logs[node] for node in net.tree):
                expected.append(line)
        self.assertEqual(self.told(lines_to_come, net.tree, net.holder, net.logs), sorted(expected))
        return len(expected)

    def test_seven_messages(self):
        tree = star_tree(40)
        leaves = [name_at(k) for k in range(1, 40)]
        for many in (5, 6, 7, 8, 39):
            net = asked(tree, name_at(0), leaves[:many])
            if many <= 6:
                self.assertEqual(len(lines_to_come(tree, name_at(0), net.logs)), {5: 120, 6: 720}[many])
            else:
                self.assertEqual(self.fails(TooMany, lines_to_come, tree, name_at(0), net.logs).many, many)

    def test_seven_messages_are_no_error_for_one_line(self):
        leaves = [name_at(k) for k in range(1, 40)]
        net = asked(star_tree(40), name_at(0), leaves)
        self.assertIsNone(self.told(blocker, net.tree, net.holder, net.logs, [name_at(0), *leaves]))
        self.check_deliveries(net, [name_at(0), *leaves])
        self.check_deliveries(net, [name_at(0), *leaves[::-1]])

    def test_lines_of_400_and_401_entries(self):
        logs = {"a": ["g"], "b": ["b"], "g": ["g"] * 398, "p": ["a"]}
        expected = [["p"] + ["g"] * 398 + ["b"]]
        self.assertEqual(self.told(lines_to_come, doc_tree(), "p", logs), expected)
        self.assertIsNone(self.told(blocker, doc_tree(), "p", logs, expected[0]))
        self.assertEqual(self.told(deliveries, doc_tree(), "p", logs, expected[0]),
                         [("b", "p"), ("p", "a"), ("a", "g")])
        for function in OF_LINE:
            self.fails(NoLine, function, doc_tree(), "p", logs, expected[0] + ["b"])


class Errors(PromiseCase):

    def test_no_tree_comes_first(self):
        for value in no_trees():
            for holder, logs, line in (("p", doc_start(), ["p", "a", "b", "g"]), ("x", doc_clash(), ["p"]),
                                       (None, None, None), ([], {}, {})):
                with self.subTest(value=value):
                    self.fails(NoTree, lines_to_come, value, holder, logs)
                    for function in OF_LINE:
                        self.fails(NoTree, function, value, holder, logs, line)

    def test_no_holder_comes_next(self):
        for value in no_nodes():
            for logs, line in ((doc_start(), ["p", "a", "b", "g"]), (doc_clash(), ["p"]), (None, None), ({}, {})):
                with self.subTest(value=value):
                    self.fails(NoNode, lines_to_come, doc_tree(), value, logs)
                    for function in OF_LINE:
                        self.fails(NoNode, function, doc_tree(), value, logs, line)

    def test_no_logs(self):
        for value in no_logs():
            for line in (["p", "a", "b", "g"], ["p"], ["x"], None):
                with self.subTest(value=value):
                    self.fails(NoLogs, lines_to_come, doc_tree(), "p", value)
                    for function in OF_LINE:
                        self.fails(NoLogs, function, doc_tree(), "p", value, line)

    def test_clash_comes_before_no_line(self):
        self.assertEqual(self.fails(Clash, lines_to_come, doc_tree(), "p", doc_clash()).edge, ("a", "g"))
        for line in no_lines() + [["p"], ["p", "g"]]:
            for function in OF_LINE:
                with self.subTest(line=line):
                    self.assertEqual(self.fails(Clash, function, doc_tree(), "p", doc_clash(), line).edge, ("a", "g"))

    def test_clash_comes_before_too_many(self):
        tree, centre = star_tree(40), name_at(0)
        logs = {node: [node] for node in tree}
        logs[centre] = [name_at(9), name_at(8), name_at(9)]
        edge = tuple(sorted((centre, name_at(9))))
        self.assertEqual(self.fails(Clash, lines_to_come, tree, centre, logs).edge, edge)

    def test_no_line(self):
        for value in no_lines():
            with self.subTest(value=value):
                for function in OF_LINE:
                    self.fails(NoLine, function, doc_tree(), "p", doc_start(), value)

    def test_any_value_as_an_entry(self):
        for value in odd_values() + ["x"]:
            for line in ([value], ["p", value], ["p", "a", value, "b", "g"]):
                for function in OF_LINE:
                    with self.subTest(line=line):
                        self.fails(NoLine, function, doc_tree(), "p", doc_start(), line)

    def test_all_errors_are_ask_errors(self):
        for values in ((None, "p", doc_start(), ["p"]), (doc_tree(), "x", doc_start(), ["p"]),
                       (doc_tree(), "p", None, ["p"]), (doc_tree(), "p", doc_clash(), ["p"]),
                       (doc_tree(), "p", doc_start(), []), (doc_tree(), "p", doc_start(), ["p"])):
            for error in (AskError, ValueError):
                with self.assertRaises(error):
                    deliveries(*values)


class ChangedArguments(PromiseCase):

    def test_arguments_changed_after_the_call_leave_the_result(self):
        tree, logs, line = doc_tree(), doc_start(), ["p", "a", "b", "g"]
        held = [lines_to_come(tree, "p", logs), deliveries(tree, "p", logs, line), blocker(tree, "p", logs, line)]
        shown = snapshot(held)
        spoil([tree, logs, line])
        self.assertEqual(snapshot(held), shown)

    def test_an_entry_appended_in_place_counts_in_the_next_call(self):
        tree, logs, line = doc_tree(), doc_start(), ["p", "a", "b", "g"]
        self.assertIsNone(blocker(tree, "p", logs, line))
        logs["p"].append("b")
        self.assertEqual(blocker(tree, "p", logs, line), "p")
        self.assertEqual(lines_to_come(tree, "p", logs), [["p", "b", "a", "g"]])
        line[1:3] = ["b", "a"]
        self.assertIsNone(blocker(tree, "p", logs, line))
        line.append("p")
        self.assertEqual(blocker(tree, "p", logs, line), "p")


if __name__ == "__main__":
    unittest.main()
