"""Tests of asklines/logs.py (points 3, 4, 5 and 18 to 21)."""

import itertools
import unittest

from asklines import logs as logs_file
from asklines.errors import AskError, Clash, NoLogs, NoNode, NoTree, Unsettled
from asklines.lines import views
from asklines.logs import are_logs, clash, edge_view, line_by, state_by
from asklines.nets import Net
from samples import (
    PromiseCase, SlowNet, any_of, doc_tree, filled_otherwise, last_of, name_at, nested, no_nodes, no_trees, odd_values,
    path_tree, sample_lines, sample_trees, slow_direction, slow_run, snapshot, spoil, star_tree, tree_of,
)

OF_LOGS = (clash, state_by, line_by)


def doc_logs():
    """The unsettled logs of the document's examples."""
    return {"a": ["a", "g"], "b": [], "g": ["g"], "p": []}


def doc_settled():
    """The settled logs of the document's examples."""
    return {"a": ["a", "g", "p", "a"], "b": ["b", "p"], "g": ["g", "a"], "p": ["a", "b", "a"]}


def no_logs():
    """Values that are no proper logs for the document's tree and holder."""
    found = odd_values() + ["p", ["p"], doc_tree(), [doc_logs()], (doc_logs(),), list(doc_logs().items())]
    empty = {"a": [], "b": [], "g": [], "p": []}
    for node in empty:
        found.append({key: [] for key in empty if key != node})
        found.append({(key + "x" if key == node else key): [] for key in empty})
        found.append({(key.upper() if key == node else key): [] for key in empty})
        found.append({(key.encode() if key == node else key): [] for key in empty})
        for value in odd_values() + ["a", "p", ("a",), ("g",), {"a": 1}, {0: "a"}, ["x"], ["a", "x"], ["p", "a"]]:
            if not isinstance(value, list) or value and (node, value) != ("p", ["p", "a"]):
                found.append({**empty, node: value})
        for value in odd_values() + ["x", "gg", ["a"], ("a",)]:
            found.append({**empty, node: [value]})
            found.append({**empty, node: [node, value, node]})
    for extra in ("c", "", "A", "pp", 0, None, True, b"p", ("p",), (), ("a", "p"), frozenset(["p"]), len):
        found.append({**empty, extra: []})
    for node, log in (("a", ["p"]), ("b", ["p"]), ("g", ["a"]), ("a", ["p", "a"]), ("p", ["a", "a"]), ("p", ["b", "b"]),
                      ("p", ["g"]), ("a", ["b"]), ("a", ["a", "g", "g"]), ("a", ["a", "p", "p", "a"]), ("g", ["p"]),
                      ("g", ["g", "b"]), ("b", ["a"]), ("p", ["p"] * 401), ("p", ["a", "b"] * 200 + ["a"]),
                      ("g", ["g", "a"] * 201), ("p", ["p"] * 1000)):
        found.append({**empty, node: log})
    return found


def slow_proper(tree, holder, value):
    """Whether a value is proper logs, sentence by sentence of point 18."""
    if not isinstance(value, dict) or any(not isinstance(key, str) for key in value) or sorted(value) != sorted(tree):
        return False
    for node, log in value.items():
        if not isinstance(log, list) or len(log) > 400 or any(not isinstance(entry, str) for entry in log):
            return False
        if any(entry != node and entry not in tree[node] for entry in log):
            return False
        if any(one == two and one in tree[node] for one, two in zip(log, log[1:])):
            return False
        if log[:1] == [slow_direction(tree, node, holder)] and node != holder:
            return False
    return True


def slow_edge_view(tree, holder, logs, node, neighbour):
    sides = [neighbour if slow_direction(tree, node, holder) == neighbour else node]
    sides += [neighbour if entry == neighbour else node for entry in logs[node]]
    return [side for side, _ in itertools.groupby(sides)]


def slow_clashes(tree, holder, logs):
    """All edges that clash, in ascending order."""
    found = []
    for x in tree:
        for y in tree[x]:
            one, two = slow_edge_view(tree, holder, logs, x, y), slow_edge_view(tree, holder, logs, y, x)
            if x < y and one != two and one != two + [x] and two != one + [y]:
                found.append((x, y))
    return sorted(found)


def slow_net_of(tree, holder, logs):
    """A slow net with these logs, or None if the logs can't be carried out to their ends."""
    net, moved = SlowNet(tree, holder), True
    while moved:
        moved = False
        for node in tree:
            for entry in logs[node][len(net.logs[node]):]:
                if entry == node:
                    net.ask(node)
                elif (entry, node) in [message[:2] for message in net.messages]:
                    net.deliver(entry, node)
                else:
                    break
                moved = True
    return net if net.logs == logs else None


def slow_state(net):
    return (net.arrows, net.pending(), net.segments())


def with_log(logs, node, log):
    return {key: log if key == node else list(logs[key]) for key in logs}


def changed_logs(tree, logs):
    """The logs with one change each: entries inserted, replaced, repeated and left out, or exchanged."""
    for node in sorted(tree):
        log = logs[node]
        others = [node, *tree[node], "x"]
        for at in range(len(log) + 1):
            for entry in others:
                yield with_log(logs, node, log[:at] + [entry] + log[at:])
        for at in range(len(log)):
            yield with_log(logs, node, log[:at] + log[at + 1:])
            yield with_log(logs, node, log[:at] + [log[at]] * 2 + log[at + 1:])
            yield with_log(logs, node, log[:at])
            for entry in others:
                yield with_log(logs, node, log[:at] + [entry] + log[at + 1:])


def moments(tree, holder, start, calls, pick=any_of):
    """The slow net behind each call of a run."""
    for _, _, _, net in slow_run(tree, holder, start, calls, pick):
        yield net


def small_trees():
    return [doc_tree(), {"p": []}, {"a": ["zz"], "zz": ["a"]}, path_tree(3), star_tree(4), tree_of([0, 0, 1, 1, 2])]


def reachable(tree, holder, longest):
    """All that a slow net can be while no log has more entries: from its logs to its state."""
    found, waiting = {}, [SlowNet(tree, holder)]
    while waiting:
        net = waiting.pop()
        key = tuple(tuple(net.logs[node]) for node in sorted(tree))
        if max(len(log) for log in key) > longest:
            continue
        if key in found:
            if found[key] != slow_state(net):
                raise AssertionError("equal logs, other states")
            continue
        found[key] = slow_state(net)
        for node in tree:
            waiting.append(net.copied())
            waiting[-1].ask(node)
        for sender, receiver, _ in net.messages:
            waiting.append(net.copied())
            waiting[-1].deliver(sender, receiver)
    return found


def all_short_logs(tree, longest):
    """All dicts from the nodes to lists of the node and its neighbours that have few entries."""
    rows = []
    for node in sorted(tree):
        rows.append([list(row) for many in range(longest + 1)
                     for row in itertools.product([node, *tree[node]], repeat=many)])
    for row in itertools.product(*rows):
        yield dict(zip(sorted(tree), row))


def in_any_order(logs):
    """The logs, and the same ones filled in other orders."""
    return [logs, *filled_otherwise(logs)]


class Interface(unittest.TestCase):

    def test_each_function_is_defined_in_this_file(self):
        for name in ("are_logs", "edge_view", "clash", "state_by", "line_by"):
            self.assertEqual(getattr(logs_file, name).__module__, "asklines.logs")
            self.assertEqual(getattr(logs_file, name).__name__, name)


class Examples(PromiseCase):

    def test_are_logs(self):
        self.assertIs(self.told(are_logs, doc_tree(), "p", doc_logs()), True)
        self.assertIs(self.told(are_logs, doc_tree(), "p", {"a": ["p"], "b": [], "g": [], "p": []}), False)

    def test_edge_view(self):
        self.assertEqual(self.told(edge_view, doc_tree(), "p", doc_logs(), "a", "p"), ["p", "a"])
        self.assertEqual(self.told(edge_view, doc_tree(), "p", doc_logs(), "p", "a"), ["p"])

    def test_clash(self):
        logs = {"a": ["a", "g", "p", "a"], "b": ["b", "p"], "g": ["g", "a"], "p": ["b", "a"]}
        self.assertEqual(self.told(clash, doc_tree(), "p", logs), ("a", "p"))

    def test_state_by(self):
        expected = ({"a": "g", "b": "p", "g": "g", "p": "p"}, [("a", "p", ("a", 1))],
                    [[("p", 0)], [("a", 1), ("g", 1)]])
        self.assertEqual(self.told(state_by, doc_tree(), "p", doc_logs()), expected)

    def test_line_by(self):
        self.assertEqual(self.told(line_by, doc_tree(), "p", doc_settled()), ["p", "a", "g", "b", "a"])
        self.assertEqual(self.fails(Unsettled, line_by, doc_tree(), "p", doc_logs()).many, 1)


class ProperLogs(PromiseCase):

    def test_logs_of_nets(self):
        for at, tree in enumerate(sample_trees()):
            for net in moments(tree, max(tree), at + 3, 60):
                self.assertIs(are_logs(net.tree, net.holder, net.logs), True)
            for logs in in_any_order(net.logs):
                self.assertIs(self.same_however_filled(are_logs, net.tree, net.holder, logs), True)

    def test_logs_for_another_holder(self):
        self.assertIs(self.told(are_logs, doc_tree(), "p", {"a": [], "b": [], "g": ["a"], "p": []}), False)
        self.assertIs(self.told(are_logs, doc_tree(), "g", {"a": [], "b": [], "g": ["a"], "p": []}), True)
        for tree in small_trees():
            for net in moments(tree, max(tree), 8, 6):
                for holder in net.tree:
                    expected = slow_proper(net.tree, holder, net.logs)
                    self.assertIs(self.told(are_logs, net.tree, holder, net.logs), expected)

    def test_logs_with_one_change(self):
        for at, tree in enumerate(small_trees()):
            for calls in (0, 3, 9, 20):
                net = SlowNet(tree, max(tree))
                for net in moments(tree, max(tree), at, calls, last_of):
                    pass
                for logs in changed_logs(net.tree, net.logs):
                    self.assertIs(are_logs(net.tree, net.holder, logs), slow_proper(net.tree, net.holder, logs))

    def test_values_of_any_kind(self):
        for value in no_logs():
            with self.subTest(value=value):
                self.assertIs(self.told(are_logs, doc_tree(), "p", value), False)

    def test_any_value_as_an_entry(self):
        for value in odd_values() + ["x", ["p"], ("p",)]:
            for log in ([value], ["p", value], [value, "p"], ["p", "a", value, "b"]):
                logs = {"a": [], "b": [], "g": [], "p": log}
                with self.subTest(log=log):
                    self.assertIs(self.told(are_logs, doc_tree(), "p", logs), False)

    def test_a_node_may_ask_again_and_again(self):
        self.assertIs(self.told(are_logs, {"p": []}, "p", {"p": ["p"] * 9}), True)
        self.assertIs(self.told(are_logs, {"p": []}, "p", {"p": []}), True)
        for node in doc_tree():
            logs = {key: [node] * 5 if key == node else [] for key in doc_tree()}
            self.assertIs(self.told(are_logs, doc_tree(), "p", logs), True)

    def test_proper_logs_may_clash(self):
        logs = {"a": ["g"], "b": [], "g": [], "p": []}
        self.assertIs(self.told(are_logs, doc_tree(), "p", logs), True)
        self.assertEqual(clash(doc_tree(), "p", logs), ("a", "g"))

    def test_lengths(self):
        for length in (0, 1, 399, 400, 401, 402, 800):
            for log in (["p"] * length, (["a", "b"] * 400)[:length]):
                for node in ("a", "p"):
                    row = log if node == "p" else ["a"] * length
                    logs = {key: row if key == node else [] for key in doc_tree()}
                    self.assertIs(are_logs(doc_tree(), "p", logs), length <= 400)

    def test_400_entries_that_are_the_node_itself(self):
        for one, two in ((399, 0), (200, 199), (200, 200), (399, 1), (400, 0), (400, 400)):
            logs = {"a": ["a"] * one, "b": [], "g": [], "p": ["p"] * two}
            self.assertIs(self.told(are_logs, doc_tree(), "p", logs), True)


class EdgeViews(PromiseCase):

    def test_by_a_slow_count(self):
        for at, tree in enumerate(sample_trees()):
            for k, net in enumerate(moments(tree, min(tree), at + 4, 45)):
                if k % 11 == 0:
                    for node in net.tree:
                        for neighbour in net.tree[node]:
                            expected = slow_edge_view(net.tree, net.holder, net.logs, node, neighbour)
                            told = edge_view(net.tree, net.holder, net.logs, node, neighbour)
                            self.assertEqual(told, expected)

    def test_logs_that_clash_have_edge_views(self):
        for tree in small_trees():
            for logs in changed_logs(tree, {node: [node] for node in tree}):
                if slow_proper(tree, min(tree), logs):
                    for node in tree:
                        for neighbour in tree[node]:
                            expected = slow_edge_view(tree, min(tree), logs, node, neighbour)
                            self.assertEqual(self.told(edge_view, tree, min(tree), logs, node, neighbour), expected)

    def test_where_it_begins(self):
        logs = {node: [] for node in doc_tree()}
        told = {(x, y): edge_view(doc_tree(), "a", logs, x, y) for x in doc_tree() for y in doc_tree()[x]}
        self.assertEqual(told, {("a", "g"): ["a"], ("g", "a"): ["a"], ("a", "p"): ["a"], ("p", "a"): ["a"],
                                ("p", "b"): ["p"], ("b", "p"): ["p"]})

    def test_400_entries(self):
        logs = {"a": [], "b": [], "g": [], "p": ["a", "b"] * 200}
        self.assertEqual(self.told(edge_view, doc_tree(), "p", logs, "p", "a"), ["p"] + ["a", "p"] * 200)
        self.assertEqual(self.told(edge_view, doc_tree(), "p", logs, "p", "b"), ["p", "b"] * 200)
        self.fails(NoLogs, edge_view, doc_tree(), "p", with_log(logs, "p", logs["p"] + ["p"]), "p", "b")

    def test_however_filled(self):
        for logs in in_any_order(doc_settled()):
            self.assertEqual(self.same_however_filled(edge_view, doc_tree(), "p", logs, "a", "p"), ["p", "a", "p", "a"])


class Clashes(PromiseCase):

    def test_logs_of_nets_do_not_clash(self):
        for at, tree in enumerate(sample_trees()):
            for k, net in enumerate(moments(tree, max(tree), at + 6, 60)):
                if k % 4 == 0:
                    self.assertIsNone(clash(net.tree, net.holder, net.logs))
            self.assertIsNone(self.same_however_filled(clash, net.tree, net.holder, net.logs))

    def test_by_a_slow_count(self):
        counts = {}
        for at, tree in enumerate(small_trees()):
            for calls in (1, 4, 10, 18):
                for net in moments(tree, max(tree), at + 2, calls):
                    pass
                for logs in changed_logs(net.tree, net.logs):
                    if slow_proper(net.tree, net.holder, logs):
                        found = slow_clashes(net.tree, net.holder, logs)
                        counts[len(found)] = counts.get(len(found), 0) + 1
                        self.assertEqual(clash(net.tree, net.holder, logs), found[0] if found else None)
        self.assertTrue(all(counts.get(many, 0) >= 20 for many in (0, 1, 2)), counts)

    def test_one_and_two_and_three_clashes(self):
        empty = {node: [] for node in doc_tree()}
        for changes, expected in (
            ({"a": ["g"]}, ("a", "g")), ({"p": ["b"]}, ("b", "p")), ({"p": ["a"]}, ("a", "p")),
            ({"p": ["b", "a"]}, ("a", "p")), ({"a": ["g"], "p": ["b"]}, ("a", "g")),
            ({"a": ["g"], "p": ["b", "a"]}, ("a", "g")), ({"a": ["g", "p"]}, ("a", "g")),
            ({"a": ["a"], "p": ["b"]}, ("b", "p")), ({"g": ["g"], "a": ["g"]}, None),
            ({"g": ["g"], "a": ["g"], "p": ["a"]}, None), ({"g": ["g"], "p": ["a"]}, ("a", "p")),
        ):
            logs = {**empty, **changes}
            with self.subTest(changes=changes):
                for filled in in_any_order(logs):
                    self.assertEqual(self.same_however_filled(clash, doc_tree(), "p", filled), expected)
                found = slow_clashes(doc_tree(), "p", logs)
                self.assertEqual(expected, found[0] if found else None)

    def test_one_side_leads(self):
        tree = {"a": ["p"], "p": ["a"]}
        for one, two, expected in (
            ([], [], None), (["a"], [], None), (["a"], ["a"], None), (["a"], ["a", "p"], None),
            (["a", "p"], ["a", "p"], None), (["a", "p", "a"], ["a", "p"], None), (["a", "a", "a"], [], None),
            (["a", "p"], [], ("a", "p")), ([], ["a"], ("a", "p")), ([], ["a", "p"], ("a", "p")),
            (["a", "p", "a"], ["a"], ("a", "p")), (["a"], ["a", "p", "a"], ("a", "p")),
            (["a", "p"], ["p", "a"], ("a", "p")), (["a"], ["p", "p"], None),
        ):
            with self.subTest(one=one, two=two):
                self.assertEqual(self.told(clash, tree, "p", {"a": one, "p": two}), expected)

    def test_both_sides_differ_by_two(self):
        tree = {"a": ["p"], "p": ["a"]}
        logs = {"a": ["a", "p"], "p": []}
        self.assertEqual(edge_view(tree, "p", logs, "a", "p"), ["p", "a", "p"])
        self.assertEqual(edge_view(tree, "p", logs, "p", "a"), ["p"])
        self.assertEqual(self.told(clash, tree, "p", logs), ("a", "p"))
        logs = {"a": ["a", "p", "a"], "p": ["a"]}
        self.assertEqual(self.told(clash, tree, "p", logs), ("a", "p"))

    def test_one_node(self):
        self.assertIsNone(self.told(clash, {"p": []}, "p", {"p": []}))
        self.assertIsNone(self.told(clash, {"p": []}, "p", {"p": ["p"] * 399}))

    def test_40_nodes_and_400_entries(self):
        tree = star_tree(40)
        centre, leaves = name_at(0), sorted(star_tree(40)[name_at(0)])
        logs = {node: [] for node in tree}
        logs[centre] = (leaves * 11)[:400]
        self.assertEqual(self.told(clash, tree, centre, logs), tuple(sorted((centre, leaves[0]))))
        logs = {node: [node] for node in tree}
        logs[centre] = [leaves[30], leaves[7], leaves[8], leaves[30]]
        self.assertEqual(self.told(clash, tree, centre, logs), tuple(sorted((centre, leaves[30]))))


class States(PromiseCase):

    def test_the_net_at_every_moment_of_a_run(self):
        for at, tree in enumerate(sample_trees()):
            for pick in (any_of, last_of):
                for net in moments(tree, min(tree), at + 21, 40, pick):
                    self.assertEqual(state_by(net.tree, net.holder, net.logs), slow_state(net))
                    if net.messages:
                        caught = self.fails(Unsettled, line_by, net.tree, net.holder, net.logs)
                        self.assertEqual(caught.many, len(net.messages))
                    else:
                        self.assertEqual(line_by(net.tree, net.holder, net.logs), net.line())

    def test_settled_nets(self):
        for at, tree in enumerate(sample_trees()):
            for net in moments(tree, min(tree), at + 31, 50):
                pass
            net.settle()
            expected = net.line()
            for logs in in_any_order(net.logs):
                self.assertEqual(self.same_however_filled(line_by, net.tree, net.holder, logs), expected)
            self.assertEqual(state_by(net.tree, net.holder, net.logs), slow_state(net))

    def test_however_filled(self):
        for at, tree in enumerate(sample_trees()):
            for net in moments(tree, max(tree), at + 41, 30):
                pass
            for logs in in_any_order(net.logs):
                self.assertEqual(self.same_however_filled(state_by, net.tree, net.holder, logs), slow_state(net))

    def test_the_form_is_the_one_of_a_net(self):
        net = Net(doc_tree(), "p")
        for node in ("a", "g", "b", "a", "p"):
            net.ask(node)
            expected = (net.arrow_map(), net.pending(), net.segments())
            self.assertEqual(snapshot(state_by(doc_tree(), "p", net.local_logs())), snapshot(expected))

    def test_the_views_of_a_line_lead_back_to_it(self):
        for tree in sample_trees():
            for line in sample_lines(tree):
                self.assertEqual(line_by(tree, line[0], views(tree, line)), line)

    def test_logs_with_one_change_are_those_of_a_net_or_clash(self):
        kinds = {True: 0, False: 0}
        for at, tree in enumerate(small_trees()):
            for calls in (2, 5, 12):
                for net in moments(tree, max(tree), at + 7, calls):
                    pass
                for logs in changed_logs(net.tree, net.logs):
                    if slow_proper(net.tree, net.holder, logs):
                        found = slow_net_of(net.tree, net.holder, logs)
                        kinds[found is None] += 1
                        if found is None:
                            least = slow_clashes(net.tree, net.holder, logs)[0]
                            self.assertEqual(self.fails(Clash, state_by, net.tree, net.holder, logs).edge, least)
                            self.assertEqual(self.fails(Clash, line_by, net.tree, net.holder, logs).edge, least)
                        else:
                            self.assertEqual(state_by(net.tree, net.holder, logs), slow_state(found))
        self.assertTrue(all(many > 50 for many in kinds.values()), kinds)

    def test_all_short_logs(self):
        """Proper logs without a clash are exactly those that some calls lead to."""
        for tree, longest in (({"p": []}, 4), ({"a": ["zz"], "zz": ["a"]}, 4), (path_tree(3), 2), (star_tree(4), 1)):
            for holder in tree:
                states = reachable(tree, holder, longest)
                for logs in all_short_logs(tree, longest):
                    key = tuple(tuple(logs[node]) for node in sorted(tree))
                    proper = are_logs(tree, holder, logs)
                    self.assertIs(proper and clash(tree, holder, logs) is None, key in states)
                    if key in states:
                        self.assertEqual(state_by(tree, holder, logs), states[key])

    def test_399_entries_that_are_the_node_itself(self):
        logs = {"a": ["g"], "b": [], "g": ["g"] * 399, "p": ["a"]}
        self.assertEqual(self.told(line_by, doc_tree(), "p", logs), ["p"] + ["g"] * 399)
        logs = {"a": ["a"] * 200, "b": [], "g": [], "p": ["p"] * 199}
        expected = ({"a": "a", "b": "p", "g": "a", "p": "p"}, [("a", "p", ("a", 1))],
                    [[("p", number) for number in range(200)], [("a", number) for number in range(1, 201)]])
        self.assertEqual(self.told(state_by, doc_tree(), "p", logs), expected)

    def test_400_entries_that_are_the_node_itself_are_no_error(self):
        self.assertEqual(line_by({"p": []}, "p", {"p": ["p"] * 400}), ["p"] * 401)

    def test_to_and_fro_on_a_path_of_40_nodes(self):
        tree, ends = path_tree(40), [name_at(0), name_at(39)]
        line = [ends[k % 2] for k in range(400)]
        logs = views(tree, line)
        self.assertEqual([len(log) for log in logs.values()], [399] * 40)
        self.assertEqual(line_by(tree, ends[0], logs), line)
        logs[name_at(20)].pop()
        edge = tuple(sorted((name_at(19), name_at(20))))
        self.assertEqual(self.fails(Clash, line_by, tree, ends[0], logs).edge, edge)

    def test_many_messages(self):
        tree = star_tree(40)
        centre = name_at(0)
        logs = {node: [node] * 10 if node != centre else [] for node in tree}
        self.assertEqual(self.fails(Unsettled, line_by, tree, centre, logs).many, 39)
        arrows, messages, segments = self.told(state_by, tree, centre, logs)
        self.assertEqual(messages, [(node, centre, (node, 1)) for node in sorted(tree) if node != centre])
        self.assertEqual(arrows, {node: node for node in tree})
        self.assertEqual([len(segment) for segment in segments], [1] + [10] * 39)


class Errors(PromiseCase):

    def test_no_tree_comes_first(self):
        for value in no_trees():
            for holder in ("p", "x", None, []):
                for logs in (doc_logs(), None, {}):
                    with self.subTest(value=value):
                        for function in (are_logs, *OF_LOGS):
                            self.fails(NoTree, function, value, holder, logs)
                        self.fails(NoTree, edge_view, value, holder, logs, "a", "p")
                        self.fails(NoTree, edge_view, value, holder, logs, [], {})

    def test_no_holder_comes_next(self):
        for value in no_nodes():
            for logs in (doc_logs(), {"a": ["g"], "b": [], "g": [], "p": []}, None, {}):
                with self.subTest(value=value):
                    for function in (are_logs, *OF_LOGS):
                        self.fails(NoNode, function, doc_tree(), value, logs)
                    self.fails(NoNode, edge_view, doc_tree(), value, logs, "a", "p")

    def test_no_logs(self):
        for value in no_logs():
            with self.subTest(value=value):
                for function in OF_LOGS:
                    self.fails(NoLogs, function, doc_tree(), "p", value)
                for node, neighbour in (("a", "p"), ("x", "p"), ("a", "b"), ([], None)):
                    self.fails(NoLogs, edge_view, doc_tree(), "p", value, node, neighbour)

    def test_edge_view_of_no_node(self):
        for value in no_nodes():
            with self.subTest(value=value):
                for node, neighbour in ((value, "p"), ("a", value), (value, value), (value, "x")):
                    self.fails(NoNode, edge_view, doc_tree(), "p", doc_logs(), node, neighbour)

    def test_edge_view_of_nodes_that_are_no_neighbours(self):
        for node in doc_tree():
            for other in doc_tree():
                if other not in doc_tree()[node]:
                    self.fails(NoNode, edge_view, doc_tree(), "p", doc_logs(), node, other)

    def test_clash_comes_before_unsettled(self):
        logs = {"a": ["a"], "b": [], "g": [], "p": ["b"]}
        for function in (state_by, line_by):
            self.assertEqual(self.fails(Clash, function, doc_tree(), "p", logs).edge, ("b", "p"))

    def test_clash_tells_the_least_edge(self):
        logs = {"a": ["g"], "b": [], "g": [], "p": ["b", "a", "p", "a"]}
        self.assertEqual(slow_clashes(doc_tree(), "p", logs), [("a", "g"), ("a", "p"), ("b", "p")])
        for function in (state_by, line_by):
            for filled in in_any_order(logs):
                self.assertEqual(self.fails(Clash, function, doc_tree(), "p", filled).edge, ("a", "g"))

    def test_unsettled_tells_how_many(self):
        logs = {node: [] for node in doc_tree()}
        for many, node in enumerate(("g", "a", "b"), 1):
            logs[node] = [node]
            self.assertEqual(self.fails(Unsettled, line_by, doc_tree(), "p", logs).many, many)

    def test_all_errors_are_ask_errors(self):
        for values in ((None, "p", doc_logs()), (doc_tree(), "x", doc_logs()), (doc_tree(), "p", None),
                       (doc_tree(), "p", {"a": ["g"], "b": [], "g": [], "p": []}), (doc_tree(), "p", doc_logs())):
            for error in (AskError, ValueError):
                with self.assertRaises(error):
                    line_by(*values)


class ChangedArguments(PromiseCase):

    def test_arguments_changed_after_the_call_leave_the_result(self):
        tree, logs = doc_tree(), doc_settled()
        held = [edge_view(tree, "p", logs, "a", "p"), state_by(tree, "p", logs), line_by(tree, "p", logs)]
        shown = snapshot(held)
        spoil(logs)
        spoil(tree)
        self.assertEqual(snapshot(held), shown)
        self.fails(NoTree, line_by, tree, "p", logs)

    def test_an_entry_appended_in_place_counts_in_the_next_call(self):
        tree, logs = doc_tree(), {node: [] for node in doc_tree()}
        self.assertEqual(line_by(tree, "p", logs), ["p"])
        logs["b"].append("b")
        self.assertEqual(self.fails(Unsettled, line_by, tree, "p", logs).many, 1)
        logs["p"].append("b")
        self.assertEqual(line_by(tree, "p", logs), ["p", "b"])
        logs["p"].append("b")
        self.assertIs(are_logs(tree, "p", logs), False)
        logs["p"][1] = "a"
        self.assertEqual(clash(tree, "p", logs), ("a", "p"))

    def test_nested_values(self):
        for value in (nested("p", 18), nested([], 18), {"p": nested([], 17)}, {"p": [nested("p", 17)]}):
            self.fails(NoLogs, line_by, {"p": []}, "p", value)


if __name__ == "__main__":
    unittest.main()
