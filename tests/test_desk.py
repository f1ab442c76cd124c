"""Tests of asklines/desk.py (points 3, 5 and 26)."""

import itertools
import re
import unittest

from asklines import desk as desk_file
from asklines.desk import Desk
from asklines.errors import (
    AskError, NoCommand, NoLine, NoMessage, NoNet, NoNode, NoRequest, Taken, TooMany, Unsettled,
)
from asklines.nets import Net
from asklines.tocome import blocker
from samples import (
    NAME, PromiseCase, SlowNet, any_of, doc_tree, edits_of_signs, edits_of_words, first_of, last_of, name_at, nested,
    odd_values, path_tree, sample_trees, slow_blocker, slow_run, slow_tree_of, slow_tree_text, star_tree, tree_of,
)

NUMBER = "(0|[1-9][0-9]{0,8})"
NEEDS_NET = [
    f"ask {NAME}", f"deliver {NAME} {NAME}", f"leaf {NAME} {NAME}", "settle", f"arrow {NAME}", f"log {NAME}", "pending",
    f"ahead {NAME} {NUMBER}", "line", f"can {NAME}( {NAME})*",
]
SIGNS = " ag0912-+>:.\nA_\t\u00e4\u0663\x00"
DOC_NET = "net p a-g a-p b-p"
ROWS = [
    DOC_NET, "net p p", "net a a-p", "ask g", "deliver g a", "leaf c b", "settle", "arrow p", "log g", "pending",
    "ahead p 0", "ahead g 1", "ahead g 10", "ahead p 123456789", "line", "can p", "can p g a", "ask abcdefgh",
    "ask ask", "leaf leaf net", "can can can",
]


def is_command(row):
    """Whether a string is a command, by the table of point 26."""
    start = re.match(f"net {NAME} ", row)
    if start:
        return slow_tree_of(row[start.end():]) is not None
    return any(re.fullmatch(pattern, row) for pattern in NEEDS_NET)


def row_of(name, values):
    """The command for a call of a method of the net."""
    return " ".join([{"add_leaf": "leaf"}.get(name, name), *values])


def text_of(result):
    """The result of such a command, for the result of the call."""
    if isinstance(result, tuple):
        return f"{result[0]} {result[1]}"
    if type(result) is int:
        return str(result)
    return {None: "ok", True: "placed", False: "forwarded"}[result]


def new_desk(tree, holder):
    desk = Desk()
    desk.command("net " + holder + " " + slow_tree_text(tree))
    return desk


def busy_desk():
    """A desk whose net has two messages under way and a request that is placed."""
    desk = Desk()
    for row in (DOC_NET, "ask a", "ask g", "ask b", "ask p", "deliver g a"):
        desk.command(row)
    return desk


def outcome(desk, row):
    """The result of a command, or its error and what the error holds."""
    try:
        return desk.command(row)
    except AskError as error:
        return type(error), vars(error)


def rows_that_ask(tree, requests, lines=()):
    """All commands that tell of a net with these nodes and requests, and `can` for these lines."""
    rows = ["pending", "line"]
    for node in sorted(tree):
        rows += [f"arrow {node}", f"log {node}"]
    rows += [f"ahead {node} {number}" for node, number in requests]
    return rows + ["can " + " ".join(line) for line in lines]


def reports(desk, rows):
    return {row: outcome(desk, row) for row in rows}


def busy_reports(desk):
    """What a desk with the net of busy_desk tells."""
    requests = [("p", 0), ("p", 1), ("a", 1), ("g", 1), ("b", 1), ("a", 2), ("g", 2), ("b", 2), ("p", 2), ("c", 1)]
    lines = [["p"], ["p", "p", "a", "g", "b"], ["p", "p", "b", "a", "g"], ["p", "a", "p", "g", "b"], ["c"], ["a", "p"]]
    return reports(desk, rows_that_ask({**doc_tree(), "c": []}, requests, lines))


def expected_reports(net, slow, lines=()):
    """The same, from the net of the package beside the desk and a slow one."""
    found = {"pending": "none", "line": (Unsettled, {"many": len(slow.messages)})}
    if net.pending():
        found["pending"] = " ".join(f"{one}>{two}:{node}.{number}" for one, two, (node, number) in net.pending())
    else:
        found["line"] = " ".join(net.request_line())
    arrows, logs = net.arrow_map(), net.local_logs()
    for node in arrows:
        found[f"arrow {node}"] = arrows[node]
        found[f"log {node}"] = " ".join(logs[node]) if logs[node] else "empty"
    for request, front in slow.aheads().items():
        if net.ahead(request) != front:
            raise AssertionError("the two nets differ")
        found["ahead " + text_of(request)] = "unknown" if front is None else text_of(front)
    for line in lines:
        node = slow_blocker(slow.tree, slow.logs, line)
        found["can " + " ".join(line)] = "yes" if node is None else "blocked " + node
    return found


def lines_for(slow):
    """Lines that can still come, and lines with a change."""
    found = [[slow.holder]]
    for pick in (first_of, last_of):
        later = slow.copied()
        while later.messages:
            later.deliver(*pick(later.pending(), 0)[:2])
        line = later.line()[:400]
        found += [line, line[:-1] or line, line[:399] + [min(slow.tree)], line[:1] + line[:0:-1]]
        if len(line) > 3:
            found.append(line[:-2] + [line[-1], line[-2]])
    return found


class DeskCase(PromiseCase):

    def compare(self, desk, net, slow):
        """Compare all that a desk tells with the net beside it and with the slow net."""
        lines = lines_for(slow)
        expected = expected_reports(net, slow, lines)
        self.assertEqual(reports(desk, expected), expected)
        for line in lines:
            if all(len(log) <= 400 for log in slow.logs.values()):
                node = blocker(net.current_tree(), slow.holder, net.local_logs(), line)
                told = desk.command("can " + " ".join(line))
                self.assertEqual(told, "yes" if node is None else "blocked " + node)

    def carry_out(self, desk, net, name, values, result):
        self.assertEqual(getattr(net, name)(*values), result)
        told = desk.command(row_of(name, values))
        self.assertIs(type(told), str)
        self.assertEqual(told, text_of(result))

    def refused(self, desk, error, row, shown=busy_reports):
        """The error of a command, behind which the desk tells what it told before."""
        before = shown(desk)
        caught = self.fails(error, desk.command, row)
        self.assertEqual(shown(desk), before)
        return caught


class Interface(unittest.TestCase):

    def test_the_class_and_its_method_are_defined_in_this_file(self):
        self.assertEqual(Desk.__module__, "asklines.desk")
        self.assertIs(desk_file.Desk, Desk)
        self.assertIn("command", vars(Desk))


class Examples(PromiseCase):

    def test_command(self):
        desk = Desk()
        self.assertEqual(desk.command(DOC_NET), "ok")
        self.assertEqual(desk.command("ask g"), "g 1")
        told = [desk.command("pending"), desk.command("can p g"), desk.command("settle"), desk.command("log p")]
        self.assertEqual(told, ["g>a:g.1", "yes", "2", "a"])
        self.fails(NoNet, Desk().command, "settle")


class Results(DeskCase):

    def talk(self, *pairs):
        desk = Desk()
        for row, result in pairs:
            self.assertEqual(desk.command(row), result, row)

    def test_each_command(self):
        self.talk(
            (DOC_NET, "ok"), ("line", "p"), ("pending", "none"), ("log a", "empty"), ("arrow g", "a"), ("arrow p", "p"),
            ("settle", "0"), ("can p", "yes"), ("can p p", "blocked p"), ("ahead p 0", "unknown"),
            ("ask a", "a 1"), ("ask a", "a 2"), ("ask b", "b 1"), ("pending", "a>p:a.1 b>p:b.1"), ("arrow a", "a"),
            ("log a", "a a"), ("ahead a 1", "unknown"), ("ahead a 2", "a 1"), ("can p a a b", "yes"),
            ("can p b a a", "yes"), ("can p a b a", "blocked a"), ("can p", "blocked a"), ("deliver b p", "placed"),
            ("can p a a b", "blocked p"), ("deliver a p", "forwarded"), ("pending", "p>b:a.1"), ("arrow p", "a"),
            ("leaf c p", "ok"), ("arrow c", "p"), ("log c", "empty"), ("ask c", "c 1"), ("deliver p b", "placed"),
            ("ahead a 1", "b 1"), ("settle", "2"), ("line", "p b a a c"), ("ahead c 1", "a 2"), ("log p", "b a c"),
            ("ask a", "a 3"), ("ahead a 3", "unknown"), ("settle", "2"), ("ahead a 3", "c 1"),
            ("line", "p b a a c a"), ("can p b a a c a", "yes"), ("can p b a a c", "blocked a"),
        )

    def test_words_that_are_names_too(self):
        self.talk(("net net ask-net", "ok"), ("ask ask", "ask 1"), ("leaf leaf net", "ok"), ("ask leaf", "leaf 1"),
                  ("pending", "ask>net:ask.1 leaf>net:leaf.1"), ("leaf empty leaf", "ok"), ("ask empty", "empty 1"),
                  ("log empty", "empty"), ("log leaf", "leaf"), ("deliver empty leaf", "placed"),
                  ("log leaf", "leaf empty"), ("settle", "3"), ("line", "net ask leaf empty"),
                  ("can net ask leaf empty", "yes"), ("arrow net", "leaf"), ("ahead empty 1", "leaf 1"))

    def test_one_node(self):
        self.talk(("net p p", "ok"), ("line", "p"), ("ask p", "p 1"), ("ask p", "p 2"), ("line", "p p p"),
                  ("log p", "p p"), ("pending", "none"), ("ahead p 2", "p 1"), ("ahead p 1", "p 0"),
                  ("ahead p 0", "unknown"), ("can p p p", "yes"), ("can p p", "blocked p"), ("arrow p", "p"),
                  ("settle", "0"), ("leaf a p", "ok"), ("arrow a", "p"), ("log p", "p p"))

    def test_a_holder_that_is_not_the_least_node(self):
        self.talk((DOC_NET.replace("net p", "net g"), "ok"), ("line", "g"), ("arrow p", "a"), ("can g", "yes"),
                  ("ask p", "p 1"), ("can g p", "yes"), ("ahead g 0", "unknown"), ("ask g", "g 1"),
                  ("ahead g 1", "g 0"), ("can g p g", "blocked g"), ("settle", "2"), ("line", "g g p"))


class BesideANet(DeskCase):

    def run_both(self, desk, tree, holder, start, calls, pick, every=1):
        self.assertEqual(desk.command(f"net {holder} {slow_tree_text(tree)}"), "ok")
        net, slow = Net(tree, holder), SlowNet(tree, holder)
        self.compare(desk, net, slow)
        for at, (name, values, result, slow) in enumerate(slow_run(tree, holder, start, calls, pick)):
            self.carry_out(desk, net, name, values, result)
            if at % every == 0:
                self.compare(desk, net, slow)
        self.carry_out(desk, net, "settle", (), slow.settle())
        self.compare(desk, net, slow)

    def test_after_every_command(self):
        for at, tree in enumerate([doc_tree(), {"p": []}, {"a": ["zz"], "zz": ["a"]}, path_tree(3), star_tree(5),
                                   tree_of([0, 0, 1, 1, 2])]):
            for pick in (first_of, last_of, any_of):
                self.run_both(Desk(), tree, sorted(tree)[at % len(tree)], at + 20, 60, pick)

    def test_several_nets_one_after_the_other_at_one_desk(self):
        desk = Desk()
        for at, tree in enumerate(sample_trees()):
            self.run_both(desk, tree, max(tree), at + 31, 30, any_of, every=29)

    def test_a_new_net_replaces_the_old_one_whole(self):
        desk = busy_desk()
        self.assertEqual(desk.command(DOC_NET), "ok")
        self.assertEqual(busy_reports(desk), busy_reports(new_desk(doc_tree(), "p")))
        self.assertEqual(desk.command("ask g"), "g 1")
        self.assertEqual(desk.command("net zz a-zz"), "ok")
        self.assertEqual([desk.command("line"), desk.command("arrow a"), desk.command("pending")], ["zz", "zz", "none"])
        self.fails(NoNode, desk.command, "ask g")

    def test_two_desks_at_the_same_time(self):
        trees = [doc_tree(), tree_of([0, 0, 1, 1, 2])]
        desks = [new_desk(trees[k], max(trees[k])) for k in (0, 1)]
        nets = [Net(trees[k], max(trees[k])) for k in (0, 1)]
        runs = [slow_run(trees[k], max(trees[k]), 44 + k, 70) for k in (0, 1)]
        third = Desk()
        for both in zip(*runs):
            for k in (0, 1):
                name, values, result, _ = both[k]
                self.carry_out(desks[k], nets[k], name, values, result)
            for k in (0, 1):
                self.compare(desks[k], nets[k], both[k][3])
        self.fails(NoNet, third.command, "line")

    def test_long_runs(self):
        for tree in (doc_tree(), path_tree(40)):
            self.run_both(Desk(), tree, min(tree), 78, 700, any_of, every=200)

    def test_a_command_that_tells_changes_nothing(self):
        desk = busy_desk()
        before = busy_reports(desk)
        for _ in range(3):
            self.assertEqual(busy_reports(desk), before)
        self.assertEqual([desk.command("ask a"), desk.command("settle")], ["a 2", busy_desk().command("settle")])


class BeyondLimits(DeskCase):

    def test_a_line_of_more_than_400_entries(self):
        desk = Desk()
        desk.command(DOC_NET)
        for _ in range(450):
            desk.command("ask g")
        self.assertEqual(desk.command("settle"), "2")
        self.assertEqual(desk.command("line"), "p" + " g" * 450)
        self.assertEqual(desk.command("log g"), " ".join(["g"] * 450))
        self.assertEqual(desk.command("ahead g 450"), "g 449")
        self.assertEqual(desk.command("can p" + " g" * 399), "blocked g")
        self.assertEqual(desk.command("can p" + " a" * 399), "blocked a")
        for many in (400, 450, 2000):
            self.fails(NoLine, desk.command, "can p" + " g" * many)

    def test_a_line_of_400_entries(self):
        desk = Desk()
        desk.command(DOC_NET)
        for _ in range(399):
            desk.command("ask g")
        self.assertEqual(desk.command("can p" + " g" * 399), "yes")
        self.assertEqual(desk.command("can p" + " g" * 398), "blocked g")
        self.fails(NoLine, desk.command, "can p" + " g" * 400)

    def test_trees_of_40_and_41_nodes(self):
        for shape in (path_tree, star_tree):
            desk = Desk()
            self.fails(NoCommand, desk.command, f"net {name_at(0)} {slow_tree_text(shape(41))}")
            self.fails(NoNet, desk.command, "line")
            self.assertEqual(desk.command(f"net {name_at(0)} {slow_tree_text(shape(40))}"), "ok")
            self.assertEqual(self.fails(TooMany, desk.command, f"leaf xyz {name_at(0)}").many, 41)


class NoCommands(DeskCase):

    def test_rows_with_one_change(self):
        kinds = {True: 0, False: 0}
        desk, without = busy_desk(), Desk()
        before = busy_reports(desk)
        for row in ROWS:
            self.assertTrue(is_command(row))
            for changed in itertools.chain([row], edits_of_signs(row, SIGNS), edits_of_words(row, " ")):
                kinds[is_command(changed)] += 1
                if not is_command(changed):
                    with self.subTest(row=changed):
                        self.fails(NoCommand, desk.command, changed)
                        self.fails(NoCommand, without.command, changed)
                elif changed.startswith("net "):
                    self.assertIn(outcome(Desk(), changed), ("ok", (NoNode, {})))
                else:
                    self.fails(NoNet, without.command, changed)
            self.assertEqual(busy_reports(desk), before)
        self.assertTrue(all(many > 300 for many in kinds.values()), kinds)

    def test_the_first_word_of_another_command(self):
        firsts = ["net", "ask", "deliver", "leaf", "settle", "arrow", "log", "pending", "ahead", "line", "can", "tell",
                  "asks", "add", "", "ASK", "nets", "local", "request", "command", "quit", "len", "get", "a", "p"]
        for first in firsts:
            for rest in ([], ["p"], ["p", "a"], ["p", "a", "g"], ["p", "0"], ["p", "1", "1"], ["0", "p"], ["0"],
                         ["a-p"], ["p", "a-p"], ["p", "a-p", "b-p"], ["p", "p"], [""], ["p", ""], ["P"], ["p", "A"]):
                row = " ".join([first, *rest])
                with self.subTest(row=row):
                    told = outcome(busy_desk(), row)
                    self.assertEqual(told != (NoCommand, {}), is_command(row))

    def test_numbers(self):
        for number in ("0", "1", "9", "10", "123456789", "999999999", "100000000"):
            self.assertTrue(is_command(f"ahead g {number}"))
            self.assertNotEqual(outcome(busy_desk(), f"ahead g {number}"), (NoCommand, {}))
        for number in ("00", "01", "007", "1234567890", "1000000000", "0000000001", "-1", "+1", "-0", "1.0", "1e3",
                       "0x1", "1_0", "", "a", "1a", "a1", "\u0661", "\u00b2", "1\n", "one", "1 ", " 1",
                       "1 1", "()", "1,0"):
            with self.subTest(number=number):
                self.refused(busy_desk(), NoCommand, f"ahead g {number}")
                self.fails(NoCommand, Desk().command, f"ahead g {number}")

    def test_names(self):
        rows = ["ask X", "deliver X p", "deliver a X", "leaf X p", "leaf c X", "arrow X", "log X", "ahead X 1", "can X",
                "can p X", "can p X a", "net X a-p", "net a X-p", "net a a-X", "net X X"]
        for row in rows:
            for name in ("", "A", "aB", "a1", "1", "0", "abcdefghi", "a-b", "a.b", "\u00e4", "\u0430", "a\n", "\ta",
                         "a_b", "a:", "*", "p>a"):
                with self.subTest(row=row, name=name):
                    changed = row.replace("X", name)
                    self.fails(NoCommand, Desk().command, changed)
                    self.fails(NoCommand, busy_desk().command, changed)

    def test_texts_that_are_no_trees(self):
        for text in ("", " ", "b-a", "a-a", "a-b a-b", "b-c a-b", "a-b c-d", "a-b a-c b-c", "a-b-c", "a-b c", "a-",
                     "-a", "a b", "a a", "a-b  b-c", " a-b", "a-b ", "a-b\n", "a-b\nb-c", "A-b",
                     "a-abcdefghi", "a--b", "a:b"):
            for holder in ("a", "b", "x"):
                with self.subTest(text=text):
                    self.assertIsNone(slow_tree_of(text))
                    self.refused(busy_desk(), NoCommand, f"net {holder} {text}")
                    desk = Desk()
                    self.fails(NoCommand, desk.command, f"net {holder} {text}")
                    self.fails(NoNet, desk.command, "pending")

    def test_values_of_any_kind(self):
        values = odd_values() + ["a", "p", (), ("ask", "g"), ["ask", "g"], ["settle"], ("line",), [["line"]],
                                 {"line": 1}, {"ask": "g"}, b"line", b"ask g", b"settle", 0, 1, None, True, False,
                                 doc_tree(), nested("line", 20), ["line"], ("net", "p", "p"), "line\n", "\nline",
                                 "line\nline", "settle;", "settle\r", "net", "net ", "net p", "net p ", "can", "can "]
        desk, without = busy_desk(), Desk()
        before = busy_reports(desk)
        for value in values:
            with self.subTest(value=value):
                self.fails(NoCommand, desk.command, value)
                self.fails(NoCommand, without.command, value)
        self.assertEqual(busy_reports(desk), before)
        self.fails(NoNet, without.command, "line")


class Errors(DeskCase):

    def test_no_net(self):
        rows = ["ask g", "ask x", "deliver g a", "deliver x y", "leaf c b", "leaf p p", "settle", "arrow p", "log p",
                "pending", "ahead p 0", "ahead x 9", "line", "can p", "can x", "can" + " p" * 500]
        desk = Desk()
        for row in rows:
            with self.subTest(row=row):
                self.fails(NoNet, desk.command, row)
        self.fails(NoNode, desk.command, "net x a-p")
        self.fails(NoCommand, desk.command, "net p p-a")
        for row in rows:
            self.fails(NoNet, desk.command, row)
        self.assertEqual([desk.command("net p p"), desk.command("line")], ["ok", "p"])

    def test_no_node(self):
        for row in ("ask x", "ask c", "ask abcdefgh", "arrow x", "log x", "deliver x p", "deliver b x", "deliver x x",
                    "deliver x y", "deliver p x", "leaf c x", "leaf c c", "net x a-p", "net x p", "net g a-p b-p"):
            with self.subTest(row=row):
                self.refused(busy_desk(), NoNode, row)

    def test_no_message(self):
        for one in "abgp":
            for two in "abgp":
                if (one, two) not in (("a", "p"), ("b", "p")):
                    self.refused(busy_desk(), NoMessage, f"deliver {one} {two}")
        desk = busy_desk()
        self.assertEqual([desk.command("deliver b p"), desk.command("deliver a p")], ["placed", "forwarded"])
        self.refused(desk, NoMessage, "deliver b p")

    def test_taken(self):
        for name in "abgp":
            for neighbour in "abgp":
                self.refused(busy_desk(), Taken, f"leaf {name} {neighbour}")
        desk = busy_desk()
        desk.command("leaf c g")
        self.refused(desk, Taken, "leaf c g")

    def test_a_leaf_in_the_order_of_the_method(self):
        self.refused(busy_desk(), Taken, "leaf a x")
        desk = new_desk(star_tree(40), name_at(0))
        rows = rows_that_ask(star_tree(40), [(name_at(0), 0)], [[name_at(0)]])
        for error, row in ((Taken, f"leaf {name_at(1)} x"), (Taken, f"leaf {name_at(1)} {name_at(2)}"),
                           (NoNode, "leaf xyz x"), (NoNode, "leaf xyz xyz"), (TooMany, f"leaf xyz {name_at(1)}")):
            self.refused(desk, error, row, lambda desk: reports(desk, rows))
        self.assertEqual(self.fails(TooMany, desk.command, f"leaf xyz {name_at(39)}").many, 41)

    def test_no_request(self):
        for row in ("ahead a 0", "ahead g 0", "ahead p 2", "ahead a 2", "ahead g 2", "ahead x 0", "ahead x 1",
                    "ahead c 1", "ahead p 999999999", "ahead x 999999999", "ahead b 10"):
            with self.subTest(row=row):
                self.refused(busy_desk(), NoRequest, row)

    def test_unsettled(self):
        desk = busy_desk()
        for many in (2, 1):
            self.assertEqual(self.refused(desk, Unsettled, "line").many, many)
            desk.command("deliver b p" if many == 2 else "deliver a p")
        self.assertEqual(self.refused(desk, Unsettled, "line").many, 1)
        desk.command("settle")
        self.assertEqual(desk.command("line"), "p p b a g")

    def test_no_line(self):
        for row in ("can a", "can x", "can p x", "can a p", "can p a b c", "can g a b p p", "can x p",
                    "can" + " p" * 401, "can p" + " a" * 400, "can a" + " p" * 399, "can can", "can p p a g b x"):
            with self.subTest(row=row):
                self.refused(busy_desk(), NoLine, row)
        desk = busy_desk()
        self.fails(NoLine, desk.command, "can p c")
        desk.command("leaf c p")
        self.assertEqual(desk.command("can p c"), "blocked a")

    def test_the_holder_is_the_one_of_the_net_command(self):
        desk = Desk()
        for holder in "pagb":
            desk.command(f"net {holder} a-g a-p b-p")
            for node in "abgp":
                if node == holder:
                    self.assertEqual(desk.command(f"can {node}"), "yes")
                else:
                    self.fails(NoLine, desk.command, f"can {node}")
        self.fails(NoNode, desk.command, "net x a-p")
        self.assertEqual(desk.command("can b"), "yes")

    def test_errors_in_the_middle_of_a_run_change_nothing(self):
        for tree in (doc_tree(), tree_of([0, 0, 1, 1, 2])):
            holder = max(tree)
            desk, net = new_desk(tree, holder), Net(tree, holder)
            for name, values, result, slow in slow_run(tree, holder, 29, 80):
                for error, row in ((NoNode, "ask x"), (NoNode, "arrow x"), (NoNode, f"deliver x {holder}"),
                                   (NoMessage, f"deliver {holder} {holder}"), (Taken, f"leaf {holder} {holder}"),
                                   (NoNode, "leaf xyz x"), (NoRequest, "ahead x 0"), (NoLine, "can x"),
                                   (NoNode, "net x a-b"), (NoCommand, "net a b-a"), (NoCommand, "ask"),
                                   (NoCommand, f"settle {holder}")):
                    self.fails(error, desk.command, row)
                self.carry_out(desk, net, name, values, result)
            self.compare(desk, net, slow)

    def test_all_errors_are_ask_errors(self):
        for row in (None, "", "ask", "ask x", "deliver p a", "leaf a p", "ahead p 9", "line", "can x", "net x p"):
            for error in (AskError, ValueError):
                with self.assertRaises(error):
                    busy_desk().command(row)
                with self.assertRaises(error):
                    Desk().command(row)


if __name__ == "__main__":
    unittest.main()
