"""Tests of the whole program: what points 16, 17 and 21 to 24 say of one net, by each function that tells it."""

import importlib
import inspect
import itertools
import unittest

from asklines.atonce import cheapest_order, count_orders, is_possible, least_messages, nth_order, rank_of
from asklines.desk import Desk
from asklines.errors import NoLine, NoLogs, NoText, NoTree, Unsettled
from asklines.lines import crossings, is_line, message_count, requests_of, view, views
from asklines.logs import are_logs, clash, edge_view, line_by, state_by
from asklines.nets import Net
from asklines.texts import read_line, read_logs, read_tree, show_line, show_logs, show_tree
from asklines.tocome import blocker, deliveries, lines_to_come
from asklines.trees import direction, edges_of, path_between, with_leaf
from samples import (
    PromiseCase, any_of, doc_tree, first_of, irregular_tree, last_of, name_at, numbers, path_tree, sample_trees,
    slow_run, snapshot, star_tree, tree_of,
)


INTERFACE = {
    "trees": {"is_name": "value", "is_tree": "value", "edges_of": "tree", "path_between": "tree node other",
              "direction": "tree node other", "with_leaf": "tree name neighbour"},
    "lines": {"is_line": "tree value", "requests_of": "tree line", "view": "tree line node", "views": "tree line",
              "crossings": "tree line", "message_count": "tree line"},
    "nets": {"Net": "tree holder"},
    "logs": {"are_logs": "tree holder value", "edge_view": "tree holder logs node neighbour",
             "clash": "tree holder logs", "state_by": "tree holder logs", "line_by": "tree holder logs"},
    "tocome": {"blocker": "tree holder logs line", "deliveries": "tree holder logs line",
               "lines_to_come": "tree holder logs"},
    "atonce": {"is_possible": "tree holder askers value", "count_orders": "tree holder askers",
               "nth_order": "tree holder askers number", "rank_of": "tree holder askers order",
               "least_messages": "tree holder askers", "cheapest_order": "tree holder askers"},
    "texts": {"show_tree": "tree", "read_tree": "text", "show_line": "line", "read_line": "text", "show_logs": "logs",
              "read_logs": "text"},
    "desk": {"Desk": ""},
}
METHODS = {
    Net: {"ask": "node", "deliver": "sender receiver", "add_leaf": "name neighbour", "settle": "", "current_tree": "",
          "arrow_map": "", "pending": "", "local_logs": "", "local_log": "node", "ahead": "request", "segments": "",
          "request_line": ""},
    Desk: {"command": "row"},
}


def words_of(text, nothing):
    return [] if text == nothing else text.split(" ")


def logs_at(desk, nodes):
    return {node: words_of(desk.command(f"log {node}"), "empty") for node in sorted(nodes)}


def arrows_at(desk, nodes):
    return {node: desk.command(f"arrow {node}") for node in sorted(nodes)}


def messages_at(desk):
    found = []
    for word in words_of(desk.command("pending"), "none"):
        way, request = word.split(":")
        node, number = request.split(".")
        found.append((*way.split(">"), (node, int(number))))
    return found


def ahead_at(desk, request):
    told = desk.command(f"ahead {request[0]} {request[1]}")
    return None if told == "unknown" else (told.split(" ")[0], int(told.split(" ")[1]))


def command_for(name, values):
    return " ".join([{"add_leaf": "leaf"}.get(name, name), *values])


class WholeCase(PromiseCase):

    def desk_for(self, tree, holder):
        desk = Desk()
        self.assertEqual(desk.command(f"net {holder} {show_tree(tree)}"), "ok")
        return desk

    def check_moment(self, desk, net, holder):
        """Check that the desk, the net and its logs tell the same."""
        tree, logs, messages = net.current_tree(), net.local_logs(), net.pending()
        self.assertEqual(read_tree(show_tree(tree)), tree)
        self.assertEqual(read_logs(show_logs(logs)), logs)
        self.assertEqual(logs_at(desk, tree), logs)
        self.assertEqual([arrows_at(desk, tree), messages_at(desk)], [net.arrow_map(), messages])
        self.assertIs(are_logs(tree, holder, logs), True)
        self.assertIsNone(clash(tree, holder, logs))
        told = state_by(tree, holder, logs)
        self.assertEqual(snapshot(told), snapshot((net.arrow_map(), messages, net.segments())))
        for segment in net.segments():
            self.assertEqual([ahead_at(desk, request) for request in segment], [None, *segment[:-1]])
        self.check_edges(net, holder)
        if messages:
            for function, *values in ((line_by, tree, holder, logs), (net.request_line,), (desk.command, "line")):
                self.assertEqual(self.fails(Unsettled, function, *values).many, len(messages))
        else:
            self.check_settled(desk, net, holder)

    def check_edges(self, net, holder):
        """Point 16, and the messages by who leads (points 20 and 21)."""
        tree, logs, arrows = net.current_tree(), net.local_logs(), net.arrow_map()
        ways = [(sender, receiver) for sender, receiver, _ in net.pending()]
        for edge in edges_of(tree):
            ends = [edge, edge[::-1]]
            self.assertEqual(sum(arrows[one] == two for one, two in ends) + sum(way in ways for way in ends), 1)
            for one, two in ends:
                leads = edge_view(tree, holder, logs, one, two) == edge_view(tree, holder, logs, two, one) + [one]
                self.assertIs(leads, (one, two) in ways)

    def check_settled(self, desk, net, holder):
        """Points 16 and 17, by all that tells the line."""
        tree, logs, line = net.current_tree(), net.local_logs(), net.request_line()
        self.assertIs(is_line(tree, line), True)
        self.assertEqual(line[0], holder)
        self.assertEqual(read_line(desk.command("line")), line)
        self.assertEqual(desk.command("line"), show_line(line))
        self.assertEqual(line_by(tree, holder, logs), line)
        self.assertEqual(views(tree, line), logs)
        self.assertEqual({node: view(tree, line, node) for node in tree}, logs_at(desk, tree))
        self.assertEqual([requests_of(tree, line)], net.segments())
        self.assertEqual(lines_to_come(tree, holder, logs), [line])
        self.assertEqual(desk.command("can " + show_line(line)), "yes")

    def check_to_come(self, desk, net, holder):
        """Point 22, by all that tells which lines can come."""
        tree, logs = net.current_tree(), net.local_logs()
        lines = lines_to_come(tree, holder, logs)
        for line in lines[::max(1, len(lines) // 4)]:
            self.assertEqual(desk.command("can " + show_line(line)), "yes")
            self.assertIsNone(blocker(tree, holder, logs, line))
            for other in (line[:-1], line[:-2] + line[:-3:-1], line + [min(tree)]):
                if other[:1] == [holder]:
                    node = blocker(tree, holder, logs, other)
                    self.assertIs(node is None, other in lines)
                    told = desk.command("can " + show_line(other))
                    self.assertEqual(told, "yes" if node is None else f"blocked {node}")
        return lines


class Interface(unittest.TestCase):

    def test_functions_and_classes(self):
        for name, listed in INTERFACE.items():
            module = importlib.import_module(f"asklines.{name}")
            for function, names in listed.items():
                with self.subTest(function=function):
                    held = getattr(module, function)
                    self.assertEqual(held.__module__, module.__name__)
                    self.assertEqual(list(inspect.signature(held).parameters), names.split())

    def test_methods(self):
        for held, listed in METHODS.items():
            for method, names in listed.items():
                with self.subTest(method=method):
                    self.assertEqual(list(inspect.signature(vars(held)[method]).parameters), ["self", *names.split()])


class Runs(WholeCase):

    def test_every_moment(self):
        for at, tree in enumerate((doc_tree(), {"p": []}, path_tree(3), star_tree(5), tree_of([0, 0, 1, 1, 2]))):
            for pick in (first_of, last_of, any_of):
                holder = sorted(tree)[at % len(tree)]
                desk, net, arrived = self.desk_for(tree, holder), Net(tree, holder), 0
                for name, values, result, _ in slow_run(tree, holder, at + 83, 50, pick):
                    self.assertEqual(getattr(net, name)(*values), result)
                    desk.command(command_for(name, values))
                    arrived += {"deliver": 1, "settle": result}.get(name, 0)
                    self.check_moment(desk, net, holder)
                    if len(net.pending()) <= 4:
                        lines = self.check_to_come(desk, net, holder)
                        self.assertTrue(net.pending() or len(lines) == 1)
                later = int(desk.command("settle"))
                self.assertEqual(net.settle(), later)
                self.check_moment(desk, net, holder)
                line, grown = net.request_line(), net.current_tree()
                self.assertEqual(arrived + later, message_count(grown, line))
                self.assertEqual(message_count(grown, line), sum(crossings(grown, line).values()))

    def test_each_line_that_can_come_comes(self):
        compared = 0
        for at, tree in enumerate((doc_tree(), star_tree(5), tree_of([0, 0, 1, 1, 2]))):
            holder = max(tree)
            rows = []
            for name, values, _, net in slow_run(tree, holder, at + 19, 14, first_of):
                rows.append(command_for(name, values))
            grown, logs = net.tree, net.logs
            lines = lines_to_come(grown, holder, logs)
            compared += len(lines)
            for line in lines:
                desk = self.desk_for(tree, holder)
                for row in rows:
                    desk.command(row)
                for sender, receiver in deliveries(grown, holder, logs, line):
                    desk.command(f"deliver {sender} {receiver}")
                    self.assertEqual(desk.command("can " + show_line(line)), "yes")
                self.assertEqual([desk.command("pending"), desk.command("line")], ["none", show_line(line)])
        self.assertGreater(compared, 3)

    def test_trees_of_40_nodes(self):
        for at, tree in enumerate(sample_trees()):
            holder = min(tree)
            desk, net = self.desk_for(tree, holder), Net(tree, holder)
            for k, (name, values, result, _) in enumerate(slow_run(tree, holder, at + 5, 80)):
                self.assertEqual(getattr(net, name)(*values), result)
                desk.command(command_for(name, values))
                if k == 40:
                    self.check_moment(desk, net, holder)
            self.assertEqual(desk.command("settle"), str(net.settle()))
            self.check_moment(desk, net, holder)

    def test_leaves_join_on_the_way(self):
        desk, tree = self.desk_for({"p": []}, "p"), {"p": []}
        for k, name in enumerate(["c", "a", "zz", "b", "d", "q"]):
            neighbour = sorted(tree)[k // 2]
            tree = with_leaf(tree, name, neighbour)
            self.assertEqual(desk.command(f"leaf {name} {neighbour}"), "ok")
            self.assertEqual(desk.command(f"arrow {name}"), neighbour)
            desk.command(f"ask {name}")
        self.assertEqual(desk.command("arrow q"), "q")
        desk.command("settle")
        line = read_line(desk.command("line"))
        self.assertEqual(logs_at(desk, tree), views(tree, line))
        self.assertEqual(line_by(tree, "p", logs_at(desk, tree)), line)
        for request, front in zip(requests_of(tree, line)[1:], requests_of(tree, line)):
            self.assertEqual(ahead_at(desk, request), front)

    def test_the_directions_are_the_arrows_at_the_start(self):
        for tree in sample_trees():
            for holder in sorted(tree)[::9]:
                desk = self.desk_for(tree, holder)
                for node in tree:
                    self.assertEqual(desk.command(f"arrow {node}"), direction(tree, node, holder))


class AtOnce(WholeCase):

    def samples(self):
        trees = [doc_tree(), {"p": []}, path_tree(4), star_tree(5), tree_of([0, 0, 1, 1, 2, 2]), irregular_tree(2, 23),
                 path_tree(40), star_tree(40)]
        for at, tree in enumerate(trees):
            nodes = sorted(tree)
            for holder in nodes[at % 2::max(1, len(nodes) // 3)]:
                yield tree, holder, nodes[:4]
                yield tree, holder, sorted({nodes[k] for k in numbers(at + 3, 4, len(nodes))})

    def test_all_that_tells_of_simultaneous_requests(self):
        for tree, holder, askers in self.samples():
            desk = self.desk_for(tree, holder)
            for node in askers:
                self.assertEqual(desk.command(f"ask {node}"), f"{node} 1")
            logs = logs_at(desk, tree)
            lines = lines_to_come(tree, holder, logs)
            self.assertEqual(len(lines), count_orders(tree, holder, askers))
            self.assertEqual(lines, [[holder, *nth_order(tree, holder, askers, k)] for k in range(len(lines))])
            self.assertEqual([rank_of(tree, holder, askers, line[1:]) for line in lines], list(range(len(lines))))
            for row in itertools.permutations(askers):
                can = is_possible(tree, holder, askers, list(row))
                self.assertIs(can, [holder, *row] in lines)
                self.assertIs(can, blocker(tree, holder, logs, [holder, *row]) is None)
                self.assertIs(can, desk.command(" ".join(["can", holder, *row])) == "yes")
            costs = [message_count(tree, line) for line in lines]
            self.assertEqual(costs, [len(deliveries(tree, holder, logs, line)) for line in lines])
            self.assertEqual(least_messages(tree, holder, askers), min(costs))
            cheapest = [holder, *cheapest_order(tree, holder, askers)]
            self.assertIn(cheapest, lines)
            self.assertEqual(costs[lines.index(cheapest)], min(costs))

    def test_what_settles_is_a_possible_order(self):
        for at, tree in enumerate(sample_trees()):
            for holder in sorted(tree)[at % 3::13]:
                desk = self.desk_for(tree, holder)
                for node in sorted(tree):
                    desk.command(f"ask {node}")
                steps = int(desk.command("settle"))
                line = read_line(desk.command("line"))
                self.assertEqual(line[0], holder)
                self.assertIs(is_possible(tree, holder, sorted(tree), line[1:]), True)
                self.assertEqual(steps, message_count(tree, line))
                self.assertGreaterEqual(steps, least_messages(tree, holder, sorted(tree)))
                number = rank_of(tree, holder, sorted(tree), line[1:])
                self.assertEqual(nth_order(tree, holder, sorted(tree), number), line[1:])

    def test_the_cheapest_order_of_all_nodes_comes(self):
        for at, tree in enumerate(sample_trees()):
            holder, askers = sorted(tree)[at % len(tree)], sorted(tree)
            line = [holder, *cheapest_order(tree, holder, askers)]
            desk = self.desk_for(tree, holder)
            for node in askers:
                desk.command(f"ask {node}")
            self.assertEqual(desk.command("can " + show_line(line)), "yes")
            ways = deliveries(tree, holder, logs_at(desk, tree), line)
            self.assertEqual(len(ways), least_messages(tree, holder, askers))
            for way in ways:
                desk.command("deliver " + " ".join(way))
            self.assertEqual(read_line(desk.command("line")), line)

    def test_the_farthest_asker_stands_last_in_the_cheapest_order(self):
        for tree in sample_trees():
            holder, askers = max(tree), sorted(tree)[::2]
            last = cheapest_order(tree, holder, askers)[-1]
            longest = max(len(path_between(tree, holder, node)) for node in askers)
            self.assertEqual(len(path_between(tree, holder, last)), longest)


class BeyondLimits(WholeCase):
    """What the package returned is longer than what it takes (point 4)."""

    def test_a_line_and_logs_of_more_than_400_entries(self):
        desk, net = self.desk_for(doc_tree(), "p"), Net(doc_tree(), "p")
        for _ in range(401):
            desk.command("ask g")
            net.ask("g")
        net.settle()
        desk.command("settle")
        line, logs = net.request_line(), net.local_logs()
        self.assertEqual(desk.command("line"), " ".join(line))
        self.assertEqual(logs_at(desk, doc_tree()), logs)
        self.assertIs(is_line(doc_tree(), line), False)
        self.assertIs(are_logs(doc_tree(), "p", logs), False)
        self.fails(NoLine, show_line, line)
        self.fails(NoText, read_line, desk.command("line"))
        self.fails(NoLogs, show_logs, logs)
        self.fails(NoLogs, line_by, doc_tree(), "p", logs)
        self.fails(NoLine, views, doc_tree(), line)
        self.fails(NoLine, desk.command, "can " + " ".join(line))

    def test_texts_of_the_greatest_values_are_read(self):
        names = [name_at(k) for k in range(40)]
        logs = {name: [name_at(103)] * 400 for name in names}
        self.assertEqual(read_logs(show_logs(logs)), logs)
        self.assertEqual(read_line(show_line([name_at(103)] * 400)), [name_at(103)] * 400)
        for shape in (path_tree, star_tree):
            self.assertEqual(read_tree(show_tree(shape(40))), shape(40))
            self.fails(NoTree, show_tree, shape(41))

    def test_2000_calls_at_a_desk(self):
        desk = self.desk_for({"a": ["p"], "p": ["a"]}, "p")
        for k in range(1000):
            node = "ap"[k % 2]
            self.assertEqual(desk.command(f"ask {node}"), f"{node} {k // 2 + 1}")
            self.assertEqual(desk.command("settle"), "1")
        self.assertEqual(desk.command("line"), "p" + " a p" * 500)
        self.assertEqual(desk.command("log a"), desk.command("log p"))
        self.assertEqual(desk.command("ahead p 500"), "a 500")
        self.assertEqual(desk.command("can p" + " a p" * 199 + " a"), "blocked a")


if __name__ == "__main__":
    unittest.main()
