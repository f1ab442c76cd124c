"""Tests of asklines/texts.py (points 3, 4, 5, 6, 14, 18 and 25)."""

import itertools
import re
import unittest

from asklines import texts
from asklines.errors import AskError, NoLine, NoLogs, NoText, NoTree
from asklines.nets import Net
from asklines.texts import read_line, read_logs, read_tree, show_line, show_logs, show_tree
from samples import (
    NAME, PromiseCase, doc_tree, edits_of_signs, edits_of_words, filled_otherwise, irregular_tree, name_at, nested,
    no_trees, numbers, odd_values, path_tree, sample_trees, slow_run, slow_tree_of, slow_tree_text, snapshot, spoil,
    star_tree, tree_of,
)

SIGNS = " -:\napzA0_\t\u00e4\x00"
READERS = (read_tree, read_line, read_logs)


def sample_lines():
    """Lists of 1 to 400 names."""
    names = [name_at(k) for k in range(104)]
    return [["p"], ["abcdefgh"], ["p", "p"], ["p", "a", "p"], ["z", "a", "zz", "aa"], names, names[::-1],
            ["p"] * 400, ["abcdefgh"] * 400, [names[k] for k in numbers(3, 399, 104)],
            [names[k] for k in numbers(4, 400, 104)]]


def sample_logs():
    """Dicts from 1 to 40 names to lists of at most 400 names, filled in any order."""
    names = [name_at(k) for k in range(104)]
    found = [{"p": []}, {"p": ["p"]}, {"a": ["x", "y"]}, {"b": [], "a": ["a", "g"]}, {"z": ["a"], "aa": [], "a": ["z"]},
             {"abcdefgh": ["abcdefgh"] * 400}, {name: [] for name in names[:40]},
             {name: ["q"] for name in names[39::-1]}]
    for start in (5, 6):
        found.append({name: [names[k] for k in numbers(start + at, at * 11 % 40, 104)]
                      for at, name in enumerate(names[:40])})
    found.append({name: ["abcdefgh"] * 400 for name in names[60:100]})
    for tree in sample_trees():
        for *_, net in slow_run(tree, max(tree), 8, 70):
            pass
        found.append(net.logs)
    return found


def slow_logs_text(logs):
    return "\n".join(node + ":" + "".join(" " + entry for entry in logs[node]) for node in sorted(logs))


def slow_line_of(text):
    """The list of names with a text, or None."""
    fits = re.fullmatch(f"{NAME}( {NAME})*", text) and text.count(" ") < 400
    return re.findall(NAME, text) if fits else None


def slow_logs_of(text):
    """The logs with a text, or None."""
    rows = text.split("\n")
    if len(rows) > 40 or not all(re.fullmatch(f"{NAME}:( {NAME})*", row) and row.count(" ") <= 400 for row in rows):
        return None
    nodes = [row[:row.index(":")] for row in rows]
    if any(one >= two for one, two in zip(nodes, nodes[1:])):
        return None
    return {node: re.findall(" (" + NAME + ")", row) for node, row in zip(nodes, rows)}


def name_like(value):
    return isinstance(value, str) and re.fullmatch(NAME, value) is not None


def slow_named_logs(value):
    """Whether a value is a dict from 1 to 40 names to lists of at most 400 names."""
    if not isinstance(value, dict) or not 1 <= len(value) <= 40 or not all(name_like(key) for key in value):
        return False
    return all(isinstance(log, list) and len(log) <= 400 and all(name_like(entry) for entry in log)
               for log in value.values())


def no_strings():
    """Values that are no strings."""
    return [value for value in odd_values() if not isinstance(value, str)] + [
        ["p"], ["a-p"], ("p",), ("a-p", "b-p"), {"p": []}, {"a": ["p"], "p": ["a"]}, b"p", b"a-p", b"a: a", ["a: a"],
        doc_tree(), ["a-g a-p b-p"], nested("p", 20),
    ]


class TextCase(PromiseCase):

    def check_edits(self, reader, slow, shower, edits):
        """Check what is read of each text; return how many of them are a text."""
        counts = {True: 0, False: 0}
        for text in edits:
            value = slow(text)
            counts[value is not None] += 1
            if value is None:
                with self.subTest(text=text):
                    self.fails(NoText, reader, text)
            else:
                told = reader(text)
                self.assertEqual(snapshot(told), snapshot(value))
                self.assertEqual(shower(told), text)
        return counts


class Interface(unittest.TestCase):

    def test_each_function_is_defined_in_this_file(self):
        for name in ("show_tree", "read_tree", "show_line", "read_line", "show_logs", "read_logs"):
            self.assertEqual(getattr(texts, name).__module__, "asklines.texts")
            self.assertEqual(getattr(texts, name).__name__, name)


class Examples(PromiseCase):

    def test_trees(self):
        self.assertEqual(self.told(show_tree, doc_tree()), "a-g a-p b-p")
        self.assertEqual(self.told(show_tree, {"p": []}), "p")
        self.assertEqual(self.told(read_tree, "a-p b-p"), {"a": ["p"], "b": ["p"], "p": ["a", "b"]})
        self.fails(NoText, read_tree, "b-p a-p")

    def test_lines(self):
        self.assertEqual(self.told(show_line, ["p", "a", "p"]), "p a p")
        self.assertEqual(self.told(read_line, "p a p"), ["p", "a", "p"])

    def test_logs(self):
        self.assertEqual(self.told(show_logs, {"b": [], "a": ["a", "g"]}), "a: a g\nb:")
        self.assertEqual(self.told(read_logs, "a: a g\nb:"), {"a": ["a", "g"], "b": []})


class Trees(TextCase):

    def test_there_and_back(self):
        for tree in sample_trees():
            text = self.same_however_filled(show_tree, tree)
            self.assertEqual(text, slow_tree_text(tree))
            ascending = {node: tree[node] for node in sorted(tree)}
            self.assertEqual(snapshot(self.told(read_tree, text)), snapshot(ascending))
            self.assertEqual(show_tree(read_tree(text)), text)

    def test_edges_are_ordered_by_their_nodes(self):
        tree = {"a": ["aa", "z"], "aa": ["a", "b"], "b": ["aa"], "z": ["a"]}
        self.assertEqual(self.told(show_tree, tree), "a-aa a-z aa-b")
        self.assertEqual(self.told(read_tree, "a-aa a-z aa-b"), tree)
        for text in ("a-aa aa-b a-z", "a-z a-aa aa-b", "aa-b a-aa a-z", "a-aa a-z b-aa", "aa-a a-z aa-b"):
            self.fails(NoText, read_tree, text)

    def test_one_and_two_nodes(self):
        for name in ("a", "z", "abcdefgh"):
            self.assertEqual(self.told(show_tree, {name: []}), name)
            self.assertEqual(self.told(read_tree, name), {name: []})
        self.assertEqual(self.told(read_tree, "a-abcdefgh"), {"a": ["abcdefgh"], "abcdefgh": ["a"]})
        for text in ("a-a", "b-a", "a-", "-a", "-", "a--b", "a - b", "a-b-c", "a b", "a-b a", "a a-b", "a-b c", "a>b"):
            self.fails(NoText, read_tree, text)

    def test_edits(self):
        counts = {True: 0, False: 0}
        for tree in [doc_tree(), {"p": []}, {"abcdefgh": []}, {"a": ["zz"], "zz": ["a"]}, path_tree(3), star_tree(5),
                     tree_of([0, 0, 1, 1, 2])]:
            text = slow_tree_text(tree)
            edits = itertools.chain(edits_of_signs(text, SIGNS), edits_of_words(text, " "), edits_of_words(text, "-"))
            found = self.check_edits(read_tree, slow_tree_of, show_tree, edits)
            counts = {key: counts[key] + found[key] for key in counts}
        self.assertTrue(all(many > 50 for many in counts.values()), counts)

    def test_edits_of_40_nodes(self):
        for at, tree in enumerate((path_tree(40), star_tree(40), irregular_tree(3, 40))):
            text = slow_tree_text(tree)
            edits = [*itertools.islice(edits_of_signs(text, SIGNS), at, None, 37), *edits_of_words(text, " ")]
            self.check_edits(read_tree, slow_tree_of, show_tree, edits)

    def test_edges_the_other_way_around_twice_or_elsewhere(self):
        for tree in sample_trees():
            words = slow_tree_text(tree).split(" ")
            for at, word in enumerate(words if len(tree) > 1 else []):
                one, two = word.split("-")
                for changed in (f"{two}-{one}", f"{one}-{one}", f"{two}-{two}", f"{one}-{two} {one}-{two}",
                                f"{one}-{two}-{one}", f"{one} {two}", one, two, f"{one}-", f"-{two}", f"{one}--{two}",
                                f"{one}:{two}", f"{one}-{two.upper()}", f"{one}-{two}abcdefgh", f"{one}-{two}1"):
                    text = " ".join(words[:at] + [changed] + words[at + 1:])
                    if slow_tree_of(text) is None:
                        self.fails(NoText, read_tree, text)
                    else:
                        self.assertIn(changed, (one, two))
                        self.assertEqual(len(words), 1)

    def test_what_is_no_tree(self):
        for text in ("a-b a-c b-c", "a-b b-c c-d a-d", "a-b c-d", "a-b a-c b-c d-e", "a-b a-c b-c d", "a-a", "a-a a-b",
                     "a-b b-b", "a-b a-b", "", " ", "  ", "\n", "-", "A", "a1", "abcdefghi", "a-abcdefghi", "a\n", "a ",
                     " a", "a-b\n", "a-b\nb-c", "a-b  b-c", "a-b,b-c", "a:b", "\u00e4", "a-\u00e4", "\uff41"):
            with self.subTest(text=text):
                self.assertIsNone(slow_tree_of(text))
                self.fails(NoText, read_tree, text)

    def test_all_rows_of_some_edges(self):
        pairs = ["a-b", "a-c", "b-c", "b-a", "c-a", "c-b", "a-a", "d-e"]
        texts_of_trees = {"a-b", "a-c", "b-c", "a-b a-c", "a-b b-c", "a-c b-c", "d-e"}
        for many in (1, 2, 3):
            for row in itertools.product(pairs, repeat=many):
                if " ".join(row) in texts_of_trees:
                    self.assertEqual(show_tree(read_tree(" ".join(row))), " ".join(row))
                else:
                    self.fails(NoText, read_tree, " ".join(row))

    def test_39_40_and_41_nodes(self):
        for shape in (path_tree, star_tree):
            for many in (39, 40):
                self.assertEqual(read_tree(show_tree(shape(many))), shape(many))
            self.fails(NoTree, show_tree, shape(41))
            self.fails(NoText, read_tree, slow_tree_text(shape(41)))
            self.fails(NoText, read_tree, slow_tree_text(shape(100)))


class Lines(TextCase):

    def test_there_and_back(self):
        for line in sample_lines():
            text = self.told(show_line, line)
            self.assertEqual(text, "".join(name + " " for name in line)[:-1])
            self.assertEqual(self.told(read_line, text), line)
            self.assertEqual(show_line(read_line(text)), text)

    def test_names_of_no_tree(self):
        self.assertEqual(self.told(show_line, ["x", "q", "x", "abcdefgh"]), "x q x abcdefgh")
        self.assertEqual(self.told(read_line, "x q x abcdefgh"), ["x", "q", "x", "abcdefgh"])

    def test_edits(self):
        counts = {True: 0, False: 0}
        for line in sample_lines()[:5] + [["a", "b"] * 10]:
            text = " ".join(line)
            edits = itertools.chain(edits_of_signs(text, SIGNS), edits_of_words(text, " "))
            found = self.check_edits(read_line, slow_line_of, show_line, edits)
            counts = {key: counts[key] + found[key] for key in counts}
        self.assertTrue(all(many > 50 for many in counts.values()), counts)

    def test_edits_of_400_names(self):
        for at, line in enumerate(sample_lines()[7:]):
            text = " ".join(line)
            edits = [*itertools.islice(edits_of_signs(text, SIGNS), at, None, 301),
                     *itertools.islice(edits_of_words(text, " "), at, None, 23)]
            self.check_edits(read_line, slow_line_of, show_line, edits)

    def test_399_400_and_401_names(self):
        for name in ("p", "abcdefgh"):
            for many in (399, 400):
                self.assertEqual(read_line(show_line([name] * many)), [name] * many)
            for many in (401, 402, 2001):
                self.fails(NoLine, show_line, [name] * many)
                self.fails(NoText, read_line, " ".join([name] * many))

    def test_what_is_no_line(self):
        for text in ("", " ", "  ", "\n", "p\n", "\np", "p\na", "p  a", " p", "p ", "p,a", "p-a", "p: a", "P", "p A",
                     "p 1", "abcdefghi", "p abcdefghi", "p\ta", "p\u00a0a", "p \u00e4", "p a\x00", "p.a"):
            with self.subTest(text=text):
                self.fails(NoText, read_line, text)


class Logs(TextCase):

    def test_there_and_back(self):
        for logs in sample_logs():
            text = self.told(show_logs, logs)
            self.assertEqual(text, slow_logs_text(logs))
            ascending = {node: logs[node] for node in sorted(logs)}
            self.assertEqual(snapshot(self.told(read_logs, text)), snapshot(ascending))
            self.assertEqual(show_logs(read_logs(text)), text)
            for other in filled_otherwise(logs):
                self.assertEqual(self.told(show_logs, other), text)

    def test_a_text_longer_than_other_texts(self):
        logs = {name_at(k): ["abcdefgh"] * 400 for k in range(40)}
        text = show_logs(logs)
        self.assertGreater(len(text), 144000)
        self.assertEqual(self.told(read_logs, text), logs)

    def test_logs_of_nets(self):
        net = Net(doc_tree(), "p")
        for node in ("a", "b", "g", "g"):
            net.ask(node)
        self.assertEqual(show_logs(net.local_logs()), "a: a\nb: b\ng: g g\np:")
        net.settle()
        self.assertEqual(show_logs(net.local_logs()), slow_logs_text(net.local_logs()))
        self.assertEqual(read_logs(show_logs(net.local_logs())), net.local_logs())

    def test_edits(self):
        counts = {True: 0, False: 0}
        for logs in sample_logs()[:5] + [{"a": ["a", "g"], "b": [], "g": ["g"], "p": []}]:
            text = slow_logs_text(logs)
            edits = itertools.chain(edits_of_signs(text, SIGNS), edits_of_words(text, " "), edits_of_words(text, "\n"),
                                    edits_of_words(text, ":"))
            found = self.check_edits(read_logs, slow_logs_of, show_logs, edits)
            counts = {key: counts[key] + found[key] for key in counts}
        self.assertTrue(all(many > 50 for many in counts.values()), counts)

    def test_edits_of_40_rows(self):
        for at, logs in enumerate(sample_logs()[6:10]):
            text = slow_logs_text(logs)
            edits = [*itertools.islice(edits_of_signs(text, SIGNS), at, None, 301), *edits_of_words(text, "\n")]
            self.check_edits(read_logs, slow_logs_of, show_logs, edits)

    def test_rows_in_another_order_or_twice(self):
        rows = ["a: a g", "b:", "g: g", "p:"]
        for many in (1, 2, 3, 4, 5):
            for row in itertools.product(rows, repeat=many):
                if list(row) == sorted(set(row)):
                    self.assertEqual(show_logs(read_logs("\n".join(row))), "\n".join(row))
                else:
                    self.fails(NoText, read_logs, "\n".join(row))

    def test_limits(self):
        names = sorted(name_at(k) for k in range(41))
        for entries in (399, 400):
            logs = {"p": ["p"] * entries, "q": ["a", "b"] * (entries // 2)}
            self.assertEqual(read_logs(show_logs(logs)), logs)
        for entries in (401, 402, 2000):
            for name in ("a", "q"):
                logs = {"b": [], name: ["p"] * entries}
                self.fails(NoLogs, show_logs, logs)
                self.fails(NoText, read_logs, slow_logs_text(logs))
        self.assertEqual(read_logs(show_logs({name: [] for name in names[:40]})), {name: [] for name in names[:40]})
        self.fails(NoLogs, show_logs, {name: [] for name in names})
        self.fails(NoText, read_logs, slow_logs_text({name: [] for name in names}))

    def test_what_is_no_logs(self):
        for text in ("", " ", "\n", ":", ": a", "a", "a:a", "a :", "a : a", "a: ", "a:  a", " a:", "a:\n", "\na:",
                     "a:\n\nb:", "a: a b:", "a:: a", "a: a:", "A:", "a: A", "a1:", "a: 1", "abcdefghi:",
                     "a: abcdefghi", "a;", "a: a\r", "a: a\r\nb:", "a:\tb", "a-b", "a: a-b", "b:\na:", "a:\na:",
                     "a: a\na: b", "\u00e4:", "a: \u00e4", "a a", "ab a", "aa:\na:", "a: b\nb:c", "a:\x0bb:",
                     "a:\u2028b:"):
            with self.subTest(text=text):
                self.assertIsNone(slow_logs_of(text))
                self.fails(NoText, read_logs, text)


class Errors(PromiseCase):

    def test_show_tree_of_any_value(self):
        for value in no_trees():
            with self.subTest(value=value):
                self.fails(NoTree, show_tree, value)

    def test_show_line_of_any_value(self):
        values = odd_values() + ["p", "p a", ("p",), ("p", "a"), {"p": 1}, {"p": []}, {"p"}, doc_tree(), ["p", None],
                                 ["p", 1], ["p", ["a"]], ["p", "A"], ["p", ""], ["p", "a b"], ["p", b"a"], [["p"]],
                                 ["p", "abcdefghi"], ["p "], ["p\n"], ["p"] * 400 + ["A"], ["p"] * 399 + [1]]
        for value in values:
            with self.subTest(value=value):
                self.fails(NoLine, show_line, value)
        for value in odd_values():
            if not name_like(value):
                for line in ([value], ["p", value], [value, "p"]):
                    with self.subTest(line=line):
                        self.fails(NoLine, show_line, line)

    def test_show_logs_of_any_value(self):
        values = no_trees() + ["a: a", ["a: a"], [("a", ["a"])], {"a": "a"}, {"a": ("a",)}, {"a": {"a": 1}},
                               {"a": None}, {"a": [], "b": None}, {"a": ["A"]}, {"a": [""]}, {"a": ["a", 1]},
                               {"a": [["a"]]}, {"a": [], "B": []}, {"a": [], "": []}, {"a": [], 1: []}, {"a": [],
                               None: []}, {"abcdefghi": []}, {("a",): []}, {"a": ["abcdefghi"]}, {"a b": []},
                               {"a:": []}, {"a": ["b\n"]}, {"a": ["b c"]}]
        shown = 0
        for value in values:
            with self.subTest(value=value):
                if slow_named_logs(value):
                    shown += 1
                    self.assertEqual(self.told(show_logs, value), slow_logs_text(value))
                else:
                    self.fails(NoLogs, show_logs, value)
        self.assertLess(shown, len(values) // 3)

    def test_any_value_as_a_part_of_logs(self):
        for value in odd_values():
            with self.subTest(value=value):
                for logs in ({"a": [value]}, {"a": ["a", value]}, {"a": ["a"], "b": [value, "a"]}):
                    self.fails(NoLogs, show_logs, logs)
                if not isinstance(value, list) or value:
                    self.fails(NoLogs, show_logs, {"a": [], "b": value})

    def test_reading_any_value(self):
        for value in no_strings():
            for reader in READERS:
                with self.subTest(value=value):
                    self.fails(NoText, reader, value)

    def test_reading_any_text(self):
        for value in odd_values():
            if isinstance(value, str):
                with self.subTest(value=value):
                    for reader, known in zip(READERS, ({"a-b"}, {"a b"}, set())):
                        if value in known:
                            self.told(reader, value)
                        else:
                            self.fails(NoText, reader, value)

    def test_all_errors_are_ask_errors(self):
        for function, value in ((show_tree, None), (show_line, []), (show_logs, {}), (read_tree, ""), (read_line, 1),
                                (read_logs, "a")):
            for error in (AskError, ValueError):
                with self.assertRaises(error):
                    function(value)


class OwnObjects(PromiseCase):

    def test_two_readings_share_nothing(self):
        for reader, text in ((read_tree, "a-g a-p b-p"), (read_line, "p a p"), (read_logs, "a: a g\nb:\np: a")):
            one, two = reader(text), reader(text)
            shown = snapshot(two)
            spoil(one)
            self.assertEqual(snapshot(two), shown)
            self.assertEqual(snapshot(reader(text)), shown)

    def test_a_text_stays_when_what_was_shown_changes(self):
        tree, line, logs = doc_tree(), ["p", "a"], {"a": ["p"], "b": []}
        held = [show_tree(tree), show_line(line), show_logs(logs)]
        spoil([tree, line, logs])
        self.assertEqual(held, ["a-g a-p b-p", "p a", "a: p\nb:"])

    def test_what_is_changed_in_place_is_shown_next(self):
        line, logs = ["p", "a"], {"a": ["p"], "b": []}
        self.assertEqual([show_line(line), show_logs(logs)], ["p a", "a: p\nb:"])
        line.append("b")
        logs["b"].append("a")
        self.assertEqual([show_line(line), show_logs(logs)], ["p a b", "a: p\nb: a"])


if __name__ == "__main__":
    unittest.main()
