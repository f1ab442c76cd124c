"""Tests of asklines/nets.py (points 3, 4, 5, 8 to 13, 16 and 17)."""

import unittest

from asklines import nets
from asklines.errors import AskError, NoMessage, NoName, NoNode, NoRequest, NoTree, Taken, TooMany, Unsettled
from asklines.lines import crossings, views
from asklines.nets import Net
from samples import (
    PromiseCase, SlowNet, any_of, containers, doc_tree, filled_otherwise, first_of, last_of, name_at, nested, no_nodes,
    no_trees, numbers, odd_values, path_tree, sample_trees, slow_run, snapshot, spoil, star_tree, state_of, tree_of,
)

METHODS = ("ask", "deliver", "add_leaf", "settle", "current_tree", "arrow_map", "pending", "local_logs", "local_log",
           "ahead", "segments", "request_line")
PICKS = (first_of, last_of, any_of)


def busy_net():
    """A net on the document's tree with two messages under way and a request that is placed."""
    net = Net(doc_tree(), "p")
    for node in ("a", "g", "b", "p"):
        net.ask(node)
    net.deliver("g", "a")
    return net


BUSY_REQUESTS = [("p", 0), ("a", 1), ("g", 1), ("b", 1), ("p", 1)]


def no_requests():
    """Values that are no requests of the busy net."""
    return odd_values() + [
        "p", "p0", ("p",), ("p", 2), ("a", 0), ("g", 0), ("b", 0), ("a", 2), ("a", -1), ("p", -1), ("p", 10 ** 30),
        ("p", True), ("p", False), ("a", True), ("a", False), ("b", True), ("x", 0), ("x", 1), ("", 0), ("P", 0),
        ("p", 0, 0), ("p", 0, None), ("a", 1, 1), ("a", "p", ("a", 1)), (("p", 0),), (("p", 0), 0), (0, "p"),
        (1, "a"), ["p", 0], ["a", 1], [("p", 0)], {"p": 0}, {"a": 1}, ("p", "0"), ("a", "1"), ("a", b"1"), ("a", None),
        ("a", [1]), ("a", (1,)), ("a", {}), (["p"], 0), (["a"], 1), ({}, 0), (None, 0), (b"p", 0), (b"a", 1), (True, 1),
        ("p", nested(0, 18)), (nested("p", 18), 0), ("a", object()), (object(), 1), 0, 1, True, False,
    ]


class NetCase(PromiseCase):
    """Tests that compare a net with a slow one."""

    def compare(self, net, slow):
        state = slow.state()
        self.assertEqual(state_of(net, state[-1]), state)
        for node in slow.tree:
            self.assertEqual(net.local_log(node), slow.logs[node])

    def carry_out(self, net, name, values, result):
        """Make a call of a run; its result is the one that the slow net told."""
        told = getattr(net, name)(*values)
        self.assertEqual(told, result)
        self.assertIs(type(told), type(result))


class Interface(unittest.TestCase):

    def test_the_class_and_its_methods_are_defined_in_this_file(self):
        self.assertEqual(Net.__module__, "asklines.nets")
        self.assertIs(nets.Net, Net)
        for name in ("__init__", *METHODS):
            self.assertIn(name, vars(Net))


class Examples(PromiseCase):

    def test_ask(self):
        net = Net(doc_tree(), "p")
        first = net.ask("a")
        self.assertEqual([first, net.ask("a"), net.ask("p")], [("a", 1), ("a", 2), ("p", 1)])

    def test_deliver(self):
        net = Net(doc_tree(), "p")
        net.ask("a")
        net.ask("b")
        self.assertEqual([net.deliver("b", "p"), net.deliver("a", "p"), net.deliver("p", "b")], [True, False, True])
        self.fails(NoMessage, Net(doc_tree(), "p").deliver, "a", "p")

    def test_add_leaf(self):
        net = Net(doc_tree(), "p")
        self.assertIsNone(net.add_leaf("c", "b"))
        net.ask("c")
        self.assertEqual(self.told(net.pending), [("c", "b", ("c", 1))])

    def test_settle(self):
        net = Net(doc_tree(), "p")
        for node in ("a", "g", "b"):
            net.ask(node)
        self.assertEqual([net.settle(), net.request_line()], [5, ["p", "a", "g", "b"]])

    def test_maps(self):
        net = Net(doc_tree(), "p")
        net.ask("g")
        self.assertEqual(self.told(net.arrow_map), {"a": "p", "b": "p", "g": "g", "p": "p"})
        self.assertEqual(self.fails(Unsettled, net.request_line).many, 1)
        net.settle()
        self.assertEqual(self.told(net.local_logs), {"a": ["g"], "b": [], "g": ["g"], "p": ["a"]})

    def test_ahead(self):
        net = Net(doc_tree(), "p")
        net.ask("g")
        early = net.ahead(("g", 1))
        net.settle()
        self.assertEqual([early, net.ahead(("g", 1)), net.ahead(("p", 0))], [None, ("p", 0), None])

    def test_segments(self):
        net = Net(doc_tree(), "p")
        net.ask("a")
        net.ask("g")
        net.deliver("g", "a")
        self.assertEqual(self.told(net.segments), [[("p", 0)], [("a", 1), ("g", 1)]])


class Starts(NetCase):

    def test_the_start_state(self):
        for tree in sample_trees():
            for holder in sorted(tree)[::4]:
                self.compare(Net(tree, holder), SlowNet(tree, holder))

    def test_however_the_tree_is_filled(self):
        for tree in sample_trees():
            for other in filled_otherwise(tree):
                net = Net(other, max(tree))
                self.assertEqual(snapshot(state_of(net)), snapshot(state_of(Net(tree, max(tree)))))

    def test_two_nets_on_one_tree(self):
        tree = doc_tree()
        one, two = Net(tree, "p"), Net(tree, "p")
        one.ask("a")
        one.add_leaf("c", "p")
        self.compare(two, SlowNet(tree, "p"))


class Runs(NetCase):

    def run_both(self, tree, holder, start, calls, pick, every=1):
        net = Net(tree, holder)
        for at, (name, values, result, slow) in enumerate(slow_run(tree, holder, start, calls, pick)):
            self.carry_out(net, name, values, result)
            if at % every == 0 or at == calls - 1:
                self.compare(net, slow)
        self.assertEqual(net.settle(), slow.settle())
        self.compare(net, slow)

    def test_runs_on_trees_of_many_shapes(self):
        for at, tree in enumerate(sample_trees()):
            for pick in PICKS:
                nodes = sorted(tree)
                with self.subTest(tree=tree, pick=pick.__name__):
                    self.run_both(tree, nodes[at * 5 % len(nodes)], at + 40, 90, pick)

    def test_long_runs(self):
        for at, tree in enumerate((doc_tree(), path_tree(40), star_tree(40), tree_of([k // 2 for k in range(39)]))):
            for pick in PICKS:
                self.run_both(tree, max(tree), at + 60, 400, pick, every=80)

    def test_2000_calls(self):
        for tree in ({"p": []}, doc_tree(), path_tree(40)):
            self.run_both(tree, min(tree), 77, 2000, any_of, every=500)

    def test_all_messages_at_once(self):
        for tree in sample_trees():
            for pick in PICKS:
                net, slow = Net(tree, min(tree)), SlowNet(tree, min(tree))
                for node in sorted(tree)[::-1]:
                    self.carry_out(net, "ask", (node,), slow.ask(node))
                for number in numbers(len(tree), 30, 1000):
                    if slow.messages:
                        values = pick(slow.pending(), number)[:2]
                        self.carry_out(net, "deliver", values, slow.deliver(*values))
                        self.compare(net, slow)
                self.carry_out(net, "settle", (), slow.settle())
                self.compare(net, slow)


class Asking(NetCase):

    def test_the_holder_places_its_request_at_once(self):
        net = Net(doc_tree(), "p")
        self.assertEqual([net.ask("p"), net.ask("p")], [("p", 1), ("p", 2)])
        self.assertEqual([net.ahead(("p", 1)), net.ahead(("p", 2))], [("p", 0), ("p", 1)])
        self.assertEqual(net.pending(), [])
        self.assertEqual(net.request_line(), ["p", "p", "p"])
        self.assertEqual(net.local_log("p"), ["p", "p"])
        self.assertEqual(net.arrow_map(), {"a": "p", "b": "p", "g": "a", "p": "p"})

    def test_a_node_asks_again_while_its_requests_are_under_way(self):
        net = Net(doc_tree(), "p")
        self.assertEqual([net.ask("g") for _ in range(3)], [("g", 1), ("g", 2), ("g", 3)])
        self.assertEqual(net.pending(), [("g", "a", ("g", 1))])
        self.assertEqual(net.segments(), [[("p", 0)], [("g", 1), ("g", 2), ("g", 3)]])
        self.assertEqual(net.deliver("g", "a"), False)
        self.assertEqual(net.ask("g"), ("g", 4))
        self.assertEqual(net.ask("a"), ("a", 1))
        self.assertEqual(net.pending(), [("a", "g", ("a", 1)), ("a", "p", ("g", 1))])
        self.assertEqual(net.deliver("a", "g"), True)
        self.assertEqual(net.ahead(("a", 1)), ("g", 4))
        self.assertEqual(net.ask("g"), ("g", 5))
        self.assertEqual(net.pending(), [("a", "p", ("g", 1)), ("g", "a", ("g", 5))])
        self.assertEqual(net.settle(), 2)
        self.assertEqual(net.request_line(), ["p", "g", "g", "g", "g", "a", "g"])

    def test_a_request_stands_behind_the_latest_request_of_the_receiver(self):
        net = Net({"a": ["p"], "p": ["a"]}, "p")
        net.ask("a")
        net.ask("p")
        net.ask("p")
        self.assertEqual(net.deliver("a", "p"), True)
        self.assertEqual(net.ahead(("a", 1)), ("p", 2))
        self.assertEqual(net.request_line(), ["p", "p", "p", "a"])

    def test_a_node_that_had_sent_its_request_on_is_asked_itself(self):
        net = busy_net()
        self.assertEqual(net.ahead(("g", 1)), ("a", 1))
        self.assertEqual(net.arrow_map(), {"a": "g", "b": "b", "g": "g", "p": "p"})
        self.assertEqual(net.segments(), [[("p", 0), ("p", 1)], [("a", 1), ("g", 1)], [("b", 1)]])

    def test_one_node(self):
        net = Net({"p": []}, "p")
        self.assertEqual([net.request_line(), net.settle(), net.segments()], [["p"], 0, [[("p", 0)]]])
        self.assertEqual(net.ask("p"), ("p", 1))
        self.assertEqual([net.request_line(), net.local_logs()], [["p", "p"], {"p": ["p"]}])


class Leaves(NetCase):

    def test_a_leaf_joins_where_a_message_is_under_way(self):
        net = Net(doc_tree(), "p")
        net.ask("b")
        self.assertIsNone(net.add_leaf("c", "b"))
        self.assertIsNone(net.add_leaf("q", "p"))
        self.assertEqual(net.pending(), [("b", "p", ("b", 1))])
        self.assertEqual(net.current_tree(), {"a": ["g", "p"], "b": ["c", "p"], "c": ["b"], "g": ["a"],
                                              "p": ["a", "b", "q"], "q": ["p"]})
        self.assertEqual(net.arrow_map(), {"a": "p", "b": "b", "c": "b", "g": "a", "p": "p", "q": "p"})
        self.assertEqual(net.local_logs(), {"a": [], "b": ["b"], "c": [], "g": [], "p": [], "q": []})
        self.assertEqual([net.ask("c"), net.ask("q")], [("c", 1), ("q", 1)])
        self.assertEqual([net.deliver("c", "b"), net.deliver("q", "p"), net.deliver("b", "p")], [True, True, False])
        self.assertEqual(net.settle(), 1)
        self.assertEqual(net.request_line(), ["p", "q", "b", "c"])

    def test_a_leaf_on_a_leaf_asks_at_once(self):
        net = Net({"p": []}, "p")
        names = [name_at(k) for k in range(1, 40) if name_at(k) != "p"]
        for before, name in zip(["p", *names], names):
            net.add_leaf(name, before)
        self.assertEqual(len(net.current_tree()), 40)
        self.assertEqual(net.ask(names[-1]), (names[-1], 1))
        self.assertEqual(net.settle(), 39)
        self.assertEqual(net.request_line(), ["p", names[-1]])

    def test_the_logs_are_the_views_on_the_grown_tree(self):
        net = Net({"p": []}, "p")
        for k, name in enumerate(("c", "a", "zz", "b", "d")):
            net.add_leaf(name, sorted(net.current_tree())[k // 2])
            net.ask(name)
            net.ask("p")
            if k % 2:
                net.settle()
        net.settle()
        self.assertEqual(net.local_logs(), views(net.current_tree(), net.request_line()))

    def test_the_fortieth_node_and_no_further(self):
        net = Net(star_tree(39), name_at(0))
        net.add_leaf("xyz", name_at(3))
        before = snapshot(state_of(net))
        self.assertEqual(self.fails(TooMany, net.add_leaf, "xy", "xyz").many, 41)
        self.assertEqual(snapshot(state_of(net)), before)
        self.fails(NoNode, net.ask, "xy")


class Settling(NetCase):

    def test_a_settled_net(self):
        for tree in sample_trees():
            net = Net(tree, min(tree))
            self.assertEqual([net.settle(), net.settle()], [0, 0])
            net.ask(max(tree))
            net.settle()
            self.assertEqual(net.settle(), 0)

    def test_always_the_least_sender_and_receiver(self):
        for tree in sample_trees():
            one, two = Net(tree, max(tree)), Net(tree, max(tree))
            for node in [*tree, *sorted(tree)]:
                self.assertEqual(one.ask(node), two.ask(node))
            count = 0
            while two.pending():
                two.deliver(*two.pending()[0][:2])
                count += 1
            self.assertEqual(one.settle(), count)
            self.assertEqual(snapshot(state_of(one)), snapshot(state_of(two)))

    def test_the_receiver_decides_between_messages_of_one_sender(self):
        net = Net(doc_tree(), "p")
        for call, *values in (("ask", "g"), ("deliver", "g", "a"), ("ask", "a")):
            getattr(net, call)(*values)
        self.assertEqual(net.pending(), [("a", "g", ("a", 1)), ("a", "p", ("g", 1))])
        net.ask("p")
        self.assertEqual([net.settle(), net.request_line()], [2, ["p", "p", "g", "a"]])


class EveryRun(NetCase):
    """Points 16 and 17."""

    def test_one_arrow_or_one_message_on_each_edge(self):
        for at, tree in enumerate(sample_trees()):
            net = Net(tree, min(tree))
            for name, values, result, slow in slow_run(tree, min(tree), at + 5, 120):
                self.carry_out(net, name, values, result)
                arrows, messages = net.arrow_map(), net.pending()
                along = [{node, arrows[node]} for node in arrows if arrows[node] != node]
                along += [{sender, receiver} for sender, receiver, _ in messages]
                edges = [{x, y} for x in slow.tree for y in slow.tree[x] if x < y]
                self.assertEqual(sorted(map(sorted, along)), sorted(map(sorted, edges)))

    def test_messages_on_an_edge_alternate(self):
        for at, tree in enumerate(sample_trees()):
            net, arrived = Net(tree, min(tree)), {}
            for name, values, result, slow in slow_run(tree, min(tree), at + 15, 200):
                self.carry_out(net, name, values, result)
                if name == "deliver":
                    arrived.setdefault(tuple(sorted(values)), []).append(values)
                if name == "settle":
                    arrived = {}
            for rows in arrived.values():
                self.assertTrue(all(one == two[::-1] for one, two in zip(rows, rows[1:])))

    def test_settled_nets(self):
        for at, tree in enumerate(sample_trees()):
            net = Net(tree, max(tree))
            crossed = 0
            for name, values, result, slow in slow_run(tree, max(tree), at + 25, 150):
                self.carry_out(net, name, values, result)
                crossed += {"deliver": 1, "settle": result}.get(name, 0)
            crossed += net.settle()
            line = net.request_line()
            self.assertEqual(net.segments(), [[(line[0], 0)] + [(node, line[1:k + 2].count(node))
                                                                for k, node in enumerate(line[1:])]])
            self.assertEqual(sorted(net.segments()[0]), sorted(slow.aheads()))
            self.assertEqual(net.local_logs(), views(net.current_tree(), line))
            self.assertEqual(crossed, sum(crossings(net.current_tree(), line).values()))

    def test_another_order_of_deliveries_gives_another_line_with_its_own_logs(self):
        for tree in sample_trees():
            lines = []
            for pick in PICKS:
                net = Net(tree, min(tree))
                for node in tree:
                    net.ask(node)
                for number in numbers(9, 5000, 1000):
                    if net.pending():
                        net.deliver(*pick(net.pending(), number)[:2])
                lines.append(net.request_line())
                self.assertEqual(net.local_logs(), views(tree, lines[-1]))
                self.assertEqual(sorted(lines[-1]), sorted([min(tree), *tree]))
            if max(len(row) for row in tree.values()) > 3:
                self.assertNotEqual(lines[0], lines[1])


class Limits(NetCase):

    def test_2000_asks_of_one_node(self):
        net = Net({"p": []}, "p")
        for number in range(1, 2001):
            self.assertEqual(net.ask("p"), ("p", number))
        self.assertEqual(net.request_line(), ["p"] * 2001)
        self.assertEqual(net.local_log("p"), ["p"] * 2000)
        self.assertEqual(net.segments(), [[("p", number) for number in range(2001)]])
        self.assertEqual([net.ahead(("p", 2000)), net.ahead(("p", 1))], [("p", 1999), ("p", 0)])

    def test_a_chain_of_2000_requests_under_way(self):
        tree = path_tree(40)
        far = name_at(39)
        net = Net(tree, name_at(0))
        for number in range(1, 2000):
            self.assertEqual(net.ask(far), (far, number))
        self.assertEqual(self.fails(Unsettled, net.request_line).many, 1)
        self.assertEqual([len(segment) for segment in net.segments()], [1, 1999])
        self.assertEqual(net.settle(), 39)
        self.assertEqual(net.request_line(), [name_at(0)] + [far] * 1999)

    def test_to_and_fro_on_a_path_of_40_nodes(self):
        tree, ends = path_tree(40), [name_at(0), name_at(39)]
        net = Net(tree, ends[0])
        for k in range(1000):
            net.ask(ends[1 - k % 2])
            self.assertEqual(net.settle(), 39)
        self.assertEqual(net.request_line(), [ends[k % 2] for k in range(1001)])
        self.assertEqual([len(log) for log in net.local_logs().values()], [1000] * 40)
        self.assertEqual(net.ahead((ends[1], 500)), (ends[0], 499))

    def test_lines_and_logs_of_399_to_402_entries(self):
        for many in (398, 399, 400, 401):
            net = Net(doc_tree(), "p")
            for _ in range(many):
                net.ask("g")
            net.settle()
            self.assertEqual(net.request_line(), ["p"] + ["g"] * many)
            self.assertEqual(net.local_logs(), {"a": ["g"], "b": [], "g": ["g"] * many, "p": ["a"]})


class OwnObjects(NetCase):
    """Point 3 for a net."""

    def test_the_tree_that_was_passed_is_changed(self):
        tree = doc_tree()
        net = Net(tree, "p")
        before = snapshot(state_of(net))
        spoil(tree)
        self.assertEqual(snapshot(state_of(net)), before)
        tree.clear()
        self.assertEqual(snapshot(state_of(net)), before)
        net.add_leaf("c", "b")
        self.assertEqual(tree, {})
        self.assertEqual(net.ask("g"), ("g", 1))

    def test_arguments_are_not_changed(self):
        tree = doc_tree()
        net = Net(tree, "p")
        net.add_leaf("c", "b")
        net.ask("c")
        net.settle()
        self.assertEqual(snapshot(tree), snapshot(doc_tree()))

    def test_results_are_new_and_changing_them_has_no_effect(self):
        for at, tree in enumerate(sample_trees()):
            net = Net(tree, min(tree))
            for name, values, result, slow in slow_run(tree, min(tree), at + 35, 40):
                self.carry_out(net, name, values, result)
            requests = list(slow.aheads())
            for settled in (False, True):
                shown = snapshot(state_of(net, requests))
                for name in ("current_tree", "arrow_map", "pending", "local_logs", "segments"):
                    self.told(getattr(net, name))
                for node in slow.tree:
                    self.told(net.local_log, node)
                if not net.pending():
                    self.told(net.request_line)
                spoil(state_of(net, requests))
                self.assertEqual(snapshot(state_of(net, requests)), shown)
                net.settle()
                slow.settle()
            self.compare(net, slow)

    def test_changed_results_have_no_effect_on_later_calls(self):
        for tree in sample_trees():
            net = Net(tree, min(tree))
            for name, values, result, slow in slow_run(tree, min(tree), 12, 60):
                spoil(state_of(net))
                self.carry_out(net, name, values, result)
            self.compare(net, slow)

    def test_no_two_results_share_a_list(self):
        net = busy_net()
        held = [net.current_tree(), net.arrow_map(), net.pending(), net.local_logs(), net.segments(),
                net.local_log("a"), net.local_log("a"), net.current_tree(), net.local_logs(), net.segments()]
        made = containers(held)
        self.assertEqual(len({id(one) for one in made}), len(made))

    def test_earlier_results_stay_as_they_were(self):
        net = busy_net()
        held = state_of(net, BUSY_REQUESTS)
        shown = snapshot(held)
        net.add_leaf("c", "b")
        net.ask("c")
        net.settle()
        net.ask("g")
        self.assertEqual(snapshot(held), shown)

    def test_dicts_are_filled_in_ascending_order(self):
        net = Net({"p": ["z", "zz"], "zz": ["p"], "z": ["p"]}, "z")
        for name in ("b", "q", "a"):
            net.add_leaf(name, "p")
            net.ask(name)
        for result in (net.current_tree(), net.arrow_map(), net.local_logs()):
            self.assertEqual(list(result), ["a", "b", "p", "q", "z", "zz"])


class Errors(NetCase):

    def refused(self, net, error, name, *values):
        """The error of a call, which leaves the net as it was."""
        before = snapshot(state_of(net, BUSY_REQUESTS))
        caught = self.fails(error, getattr(net, name), *values)
        self.assertEqual(snapshot(state_of(net, BUSY_REQUESTS)), before)
        return caught

    def test_a_net_of_no_tree(self):
        for value in no_trees():
            for holder in ("p", "a", "x", None, []):
                with self.subTest(value=value):
                    self.fails(NoTree, Net, value, holder)

    def test_a_net_of_no_holder(self):
        for value in no_nodes():
            with self.subTest(value=value):
                self.fails(NoNode, Net, doc_tree(), value)

    def test_ask_and_local_log(self):
        net = busy_net()
        for value in no_nodes():
            with self.subTest(value=value):
                self.refused(net, NoNode, "ask", value)
                self.refused(net, NoNode, "local_log", value)
        self.assertEqual(net.ask("a"), ("a", 2))

    def test_deliver_no_node(self):
        net = busy_net()
        for value in no_nodes():
            with self.subTest(value=value):
                for values in ((value, "p"), ("b", value), (value, value), (value, "x"), ("x", value)):
                    self.refused(net, NoNode, "deliver", *values)

    def test_deliver_no_message(self):
        net = busy_net()
        under_way = [("a", "p"), ("b", "p")]
        for sender in doc_tree():
            for receiver in doc_tree():
                if (sender, receiver) not in under_way:
                    self.refused(net, NoMessage, "deliver", sender, receiver)
        for sender, receiver in under_way:
            net.deliver(sender, receiver)
            self.refused(net, NoMessage, "deliver", sender, receiver)

    def test_add_leaf_no_name(self):
        net = busy_net()
        for value in odd_values() + [["a"], doc_tree()]:
            for neighbour in ("p", "x", None, []):
                with self.subTest(value=value):
                    self.refused(net, NoName, "add_leaf", value, neighbour)

    def test_add_leaf_taken(self):
        net = busy_net()
        net.add_leaf("c", "g")
        for name in ("a", "b", "c", "g", "p"):
            for neighbour in ("p", "x", None, []):
                self.refused(net, Taken, "add_leaf", name, neighbour)

    def test_add_leaf_no_node(self):
        net = busy_net()
        for value in no_nodes() + ["new"]:
            with self.subTest(value=value):
                self.refused(net, NoNode, "add_leaf", "new", value)

    def test_add_leaf_to_40_nodes_in_the_listed_order(self):
        tree = star_tree(40)
        net = Net(tree, name_at(0))
        net.ask(name_at(9))
        before = snapshot(state_of(net))
        self.fails(NoName, net.add_leaf, "X", "x")
        self.fails(NoName, net.add_leaf, None, name_at(1))
        self.fails(Taken, net.add_leaf, name_at(1), "x")
        self.fails(Taken, net.add_leaf, name_at(1), name_at(2))
        self.fails(NoNode, net.add_leaf, "xyz", "x")
        self.fails(NoNode, net.add_leaf, "xyz", [])
        self.assertEqual(self.fails(TooMany, net.add_leaf, "xyz", name_at(1)).many, 41)
        self.assertEqual(snapshot(state_of(net)), before)

    def test_ahead(self):
        net = busy_net()
        for value in no_requests():
            with self.subTest(value=value):
                self.refused(net, NoRequest, "ahead", value)
        self.assertEqual([net.ahead(request) for request in BUSY_REQUESTS], [None, None, ("a", 1), None, ("p", 0)])

    def test_a_request_exists_from_its_ask_on(self):
        net = Net(doc_tree(), "g")
        self.assertIsNone(net.ahead(("g", 0)))
        self.fails(NoRequest, net.ahead, ("p", 0))
        for number in (1, 2, 3):
            self.fails(NoRequest, net.ahead, ("b", number))
            net.ask("b")
            self.assertEqual(net.ahead(("b", number)), ("b", number - 1) if number > 1 else None)
        net.add_leaf("c", "b")
        self.fails(NoRequest, net.ahead, ("c", 0))
        self.fails(NoRequest, net.ahead, ("c", 1))
        net.ask("c")
        self.assertIsNone(net.ahead(("c", 1)))
        self.fails(NoRequest, net.ahead, ("c", 2))

    def test_unsettled_tells_how_many(self):
        for tree in sample_trees():
            net, slow = Net(tree, min(tree)), SlowNet(tree, min(tree))
            for node in tree:
                net.ask(node)
                slow.ask(node)
                if slow.messages:
                    self.assertEqual(self.fails(Unsettled, net.request_line).many, len(slow.messages))
            while slow.messages:
                self.assertEqual(self.fails(Unsettled, net.request_line).many, len(slow.messages))
                values = slow.pending()[-1][:2]
                net.deliver(*values)
                slow.deliver(*values)
            self.assertEqual(net.request_line(), slow.line())
        self.assertEqual(self.refused(busy_net(), Unsettled, "request_line").many, 2)

    def test_errors_in_the_middle_of_a_run_change_nothing(self):
        for tree in sample_trees():
            net = Net(tree, min(tree))
            for name, values, result, slow in slow_run(tree, min(tree), 33, 80):
                self.fails(NoNode, net.ask, "X")
                self.fails(NoNode, net.deliver, "X", min(tree))
                self.fails(NoMessage, net.deliver, min(tree), min(tree))
                self.fails(NoName, net.add_leaf, "X", "X")
                self.fails(Taken, net.add_leaf, max(tree), min(tree))
                self.fails(NoRequest, net.ahead, None)
                self.carry_out(net, name, values, result)
            self.compare(net, slow)

    def test_all_errors_are_ask_errors(self):
        net = busy_net()
        for error in (AskError, ValueError):
            for call, *values in ((Net, None, "p"), (Net, doc_tree(), "x"), (net.ask, "x"), (net.deliver, "p", "a"),
                                  (net.add_leaf, "A", "p"), (net.add_leaf, "a", "p"), (net.ahead, 1),
                                  (net.request_line,)):
                with self.assertRaises(error):
                    call(*values)


if __name__ == "__main__":
    unittest.main()
