"""Samples and checks that several test files use."""

import re
import unittest

NAME = "[a-z]{1,8}"
LETTERS = "abcdefghijklmnopqrstuvwxyz"


def doc_tree():
    """The tree of the document's examples."""
    return {"a": ["g", "p"], "b": ["p"], "g": ["a"], "p": ["a", "b"]}


def name_at(k):
    """A name of 1 to 8 letters, another one for each k from 0 to 103."""
    return LETTERS[k * 7 % 26] * (k % 8 + 1)


def tree_of(parents):
    """The tree in which node k + 1 hangs on node parents[k]."""
    tree = {name_at(k): [] for k in range(len(parents) + 1)}
    for k, parent in enumerate(parents):
        tree[name_at(k + 1)].append(name_at(parent))
        tree[name_at(parent)].append(name_at(k + 1))
    return {node: sorted(tree[node]) for node in tree}


def numbers(start, count, below):
    """Integers that look irregular and are the same in each run."""
    found = []
    for _ in range(count):
        start = (start * 1103515245 + 12345) % 2 ** 31
        found.append(start // 65536 % below)
    return found


def irregular_tree(start, nodes):
    return tree_of([number % (k + 1) for k, number in enumerate(numbers(start, nodes - 1, 9973))])


def path_tree(nodes):
    return tree_of(list(range(nodes - 1)))


def star_tree(nodes):
    return tree_of([0] * (nodes - 1))


def sample_trees():
    """Trees of many shapes, those of 1, 2 and 40 nodes among them."""
    return [
        doc_tree(),
        {"p": []},
        {"abcdefgh": []},
        {"a": ["zz"], "zz": ["a"]},
        path_tree(3),
        path_tree(40),
        star_tree(40),
        tree_of([k // 2 for k in range(39)]),
        tree_of([k // 2 * 2 for k in range(30)]),
        tree_of([0] * 19 + [19] * 20),
        irregular_tree(1, 7),
        irregular_tree(2, 23),
        irregular_tree(3, 40),
    ]


def sample_lines(tree):
    """Lines of the tree: of 1 entry, of some, of 400 entries."""
    nodes = sorted(tree)
    lines = [[nodes[0]], [nodes[-1]], [nodes[0]] * 2, nodes, nodes[::-1], nodes + nodes[::-1] + nodes]
    for start, length in ((5, 2), (6, 7), (7, 60), (8, 400)):
        lines.append([nodes[k] for k in numbers(start, length, len(nodes))])
    return lines


def filled_otherwise(tree):
    """The same tree, its dict filled in three other orders."""
    nodes = list(tree)
    for order in (sorted(nodes), sorted(nodes)[::-1], nodes[len(nodes) // 2:] + nodes[:len(nodes) // 2]):
        yield {node: list(tree[node]) for node in order}


class Stubborn:
    """A value that can't be compared, hashed or tested."""

    def refuse(self, *rest):
        raise RuntimeError("a value of no listed kind was asked")

    __eq__ = __ne__ = __lt__ = __le__ = __gt__ = __ge__ = __hash__ = __bool__ = __len__ = __iter__ = refuse


def nested(value, depth):
    for k in range(depth):
        value = ([value], (value,), {"a": value})[k % 3]
    return value


def odd_values():
    """Values of many kinds: none is a name, a tree or a list of names."""
    return [
        None, True, False, 0, 1, -1, 40, 10 ** 30,
        "", "A", "aB", "a1", "1", " ", "a ", " a", "a b", "a\n", "\na", "a\t", "a-b", "a_b", "abcdefghi",
        "\u00e4", "\u0430", "\u00aa", "\uff41", "a\u0301", "\x00", "a\x00", "`", "{", "@", "[",
        b"", b"a", b"p", bytes(3),
        [], [[]], [None], [0, 1], [b"a"], [{}], [()], [["a"]], [("a",)], ["A"], ["a", ""], ["a", 1], [1, "a"],
        (), (1,), ("a",), ("a", "p"), (("a",),), ([],), ({},), (None, "a"),
        {}, {"A": []}, {"": []}, {"a": None}, {"a": ()}, {"a": {}}, {"a": "p"}, {"a": ""}, {"a": ["a"]},
        {"a": ["p"]}, {"a": [[]]}, {"a": [None]}, {"a": [{}]}, {"a": [1]}, {1: []}, {None: []}, {True: [], 0: []},
        {b"a": []}, {("a",): []}, {"a": [], 1: []}, {1: ["a"], "a": [1]}, {"a": 5, "b": ["a"]},
        {"a": ["b"], "b": 5}, {"a": ["b"], "b": "a"}, {"a": ["b"], "b": {"a": 1}}, {"a": ["b"], "b": None},
        set(), {"a"}, frozenset(), frozenset(["a"]), {"a": {"a"}},
        nested(1, 20), nested([], 20), nested((), 20), nested("A", 20), {"a": nested([], 19)}, [nested(None, 19)],
        object(), len, str, Stubborn(), [Stubborn()], ["a", Stubborn()], (Stubborn(),), {"a": Stubborn()},
        {"a": [Stubborn()]}, {"a": ["b"], "b": Stubborn()}, {"a": ["b"], "b": [Stubborn()]},
    ]


def nearly_trees():
    """Values that miss being a tree by one thing, each with what it is."""
    loop = path_tree(5)
    loop[name_at(0)] = sorted(loop[name_at(0)] + [name_at(4)])
    loop[name_at(4)] = sorted(loop[name_at(4)] + [name_at(0)])
    return [
        ("41 nodes", path_tree(41)),
        ("41 nodes in a star", star_tree(41)),
        ("no node", {}),
        ("missing on the later side", {"a": ["b"], "b": []}),
        ("missing on the earlier side", {"a": [], "b": ["a"]}),
        ("missing on one side, the number of ends as in a tree", {"a": ["b", "c"], "b": ["c"], "c": ["b"]}),
        ("each list names another node", {"a": ["b"], "b": ["c"], "c": ["a"]}),
        ("a neighbour that is no node", {"a": ["b", "p"], "b": ["a"]}),
        ("the only neighbour is no node", {"a": ["b"]}),
        ("its own neighbour", {"a": ["a"]}),
        ("its own neighbour and another", {"a": ["a", "b"], "b": ["a"]}),
        ("its own neighbour in place of an edge", {"a": ["a"], "b": ["b"]}),
        ("a duplicate", {"a": ["b", "b"], "b": ["a"]}),
        ("duplicates on both sides", {"a": ["b", "b"], "b": ["a", "a"]}),
        ("a duplicate, the number of ends as in a tree", {"a": ["b", "b"], "b": ["a", "a"], "c": []}),
        ("not ascending", {"a": ["p"], "b": ["p"], "p": ["b", "a"]}),
        ("not ascending in the middle", {"a": ["p"], "b": ["p"], "c": ["p"], "d": ["p"], "p": ["a", "c", "b", "d"]}),
        ("a tuple", {"a": ("p",), "p": ["a"]}),
        ("a tuple on the later side", {"a": ["p"], "p": ("a",)}),
        ("an empty tuple", {"a": ()}),
        ("a string", {"a": "p", "p": "a"}),
        ("a dict", {"a": {"p": 1}, "p": {"a": 1}}),
        ("a set", {"a": {"p"}, "p": {"a"}}),
        ("two parts", {"a": [], "b": []}),
        ("two parts with edges", {"a": ["b"], "b": ["a"], "c": ["d"], "d": ["c"]}),
        ("a cycle", {"a": ["b", "c"], "b": ["a", "c"], "c": ["a", "b"]}),
        ("a cycle of five", loop),
        ("a cycle and a part of its own", {"a": ["b", "c"], "b": ["a", "c"], "c": ["a", "b"], "d": []}),
        ("a cycle beside a part with the least node", {"a": [], "b": ["c", "d"], "c": ["b", "d"], "d": ["b", "c"]}),
        ("a capital letter", {"A": ["p"], "p": ["A"]}),
        ("a name of no letter", {"": []}),
        ("a name of 9 letters", {"abcdefghi": ["p"], "p": ["abcdefghi"]}),
        ("a digit", {"a1": []}),
        ("a newline", {"a\n": []}),
        ("an integer as a node", {1: []}),
        ("bytes as a node", {b"a": []}),
        ("integers as neighbours", {1: [2], 2: [1]}),
        ("a mixture of keys", {"a": ["p"], "p": ["a"], None: []}),
        ("a list of pairs", [("a", ["p"]), ("p", ["a"])]),
        ("a list of edges", [("a", "p")]),
    ]


def no_trees():
    """Values that are no tree."""
    return odd_values() + ["a", "p", ["a"], ["p"], ["a", "p"]] + [value for _, value in nearly_trees()]


def no_nodes():
    """Values that are no nodes of any sample tree, the name of no node among them."""
    return odd_values() + ["x", "pq", "qqqqqqqq", ["a"], ["p"], ("p",), ("a", "p"), ("p", 0), doc_tree()]


def side_of(tree, node, neighbour):
    """The nodes on the node's side of the edge to the neighbour, the edge taken away."""
    side = [node]
    for found in side:
        for other in tree[found]:
            if other not in side and (found, other) != (node, neighbour):
                side.append(other)
    return side


def slow_direction(tree, node, target):
    """The direction by what is cut off when an edge is taken away."""
    for neighbour in tree[node]:
        if target in side_of(tree, neighbour, node):
            return neighbour
    return node


def slow_view(tree, line, node):
    towards = {other: slow_direction(tree, node, other) for other in tree}
    steps = [towards[entry] for entry in line]
    return [step for before, step in zip(steps, steps[1:]) if step == node or step != before]


class SlowNet:
    """A plain simulation of a net, step by step as points 8 to 13 tell it."""

    def __init__(self, tree, holder):
        self.tree = {node: list(tree[node]) for node in tree}
        self.holder = holder
        self.arrows = {node: slow_direction(tree, node, holder) for node in tree}
        self.logs = {node: [] for node in tree}
        self.requests = {node: [(node, 0)] if node == holder else [] for node in tree}
        self.messages = []
        self.pairs = []

    def copied(self):
        other = SlowNet({self.holder: []}, self.holder)
        other.tree = {node: list(self.tree[node]) for node in self.tree}
        other.arrows = dict(self.arrows)
        other.logs = {node: list(self.logs[node]) for node in self.logs}
        other.requests = {node: list(self.requests[node]) for node in self.requests}
        other.messages = list(self.messages)
        other.pairs = list(self.pairs)
        return other

    def ask(self, node):
        earlier = self.requests[node]
        new = (node, max([number for _, number in earlier], default=0) + 1)
        if self.arrows[node] == node:
            self.pairs.append((earlier[-1], new))
        else:
            self.messages.append((node, self.arrows[node], new))
            self.arrows[node] = node
        self.requests[node] = earlier + [new]
        self.logs[node].append(node)
        return new

    def deliver(self, sender, receiver):
        found = [message for message in self.messages if message[:2] == (sender, receiver)]
        if len(found) != 1:
            raise LookupError("not one message, but " + str(len(found)))
        self.messages.remove(found[0])
        self.logs[receiver].append(sender)
        old = self.arrows[receiver]
        self.arrows[receiver] = sender
        if old == receiver:
            self.pairs.append((self.requests[receiver][-1], found[0][2]))
        else:
            self.messages.append((receiver, old, found[0][2]))
        return old == receiver

    def add_leaf(self, name, neighbour):
        self.tree[name] = [neighbour]
        self.tree[neighbour] = sorted(self.tree[neighbour] + [name])
        self.arrows[name] = neighbour
        self.logs[name] = []
        self.requests[name] = []

    def settle(self):
        count = 0
        while self.messages:
            self.deliver(*sorted(self.messages)[0][:2])
            count += 1
        return count

    def pending(self):
        return sorted(self.messages)

    def aheads(self):
        """A dict from each request to the one directly ahead, or None."""
        ahead = {behind: front for front, behind in self.pairs}
        return {request: ahead.get(request) for node in self.requests for request in self.requests[node]}

    def segments(self):
        behind = dict(self.pairs)
        found = []
        for request, front in self.aheads().items():
            if front is None:
                segment = [request]
                while segment[-1] in behind:
                    segment.append(behind[segment[-1]])
                found.append(segment)
        return sorted(found, key=lambda segment: (segment[0] != (self.holder, 0), segment))

    def line(self):
        """The line of a settled net, None of another one."""
        return None if self.messages else [node for node, _ in self.segments()[0]]

    def state(self):
        """All that a net tells, in the form of state_of."""
        return [self.tree, self.arrows, self.pending(), self.logs, self.segments(), self.line(), self.aheads()]


def state_of(net, requests=()):
    """All that a net tells, and what is ahead of these requests."""
    pending = net.pending()
    line = None if pending else net.request_line()
    return [net.current_tree(), net.arrow_map(), pending, net.local_logs(), net.segments(), line,
            {request: net.ahead(request) for request in requests}]


def first_of(messages, number):
    return messages[0]


def last_of(messages, number):
    return messages[-1]


def any_of(messages, number):
    return messages[number % len(messages)]


def next_call(net, number, pick):
    """The name and the arguments of a call that the slow net can carry out."""
    kind, rest = number % 20, number // 20
    nodes = sorted(net.tree)
    if kind < 11 and net.messages:
        return "deliver", pick(net.pending(), rest)[:2]
    if kind == 19 and rest % 5 == 0:
        return "settle", ()
    if kind == 18 and len(nodes) < 40 and rest % 3 == 0:
        return "add_leaf", ([name_at(k) for k in range(104) if name_at(k) not in net.tree][0], nodes[rest % len(nodes)])
    return "ask", (nodes[rest % len(nodes)],)


def slow_run(tree, holder, start, calls, pick=any_of):
    """A run on a slow net: each call, its arguments, its result, and the net behind it."""
    net = SlowNet(tree, holder)
    for number in numbers(start, calls, 9973):
        name, values = next_call(net, number, pick)
        yield name, values, getattr(net, name)(*values), net


def asked(tree, holder, nodes):
    """A slow net in which these nodes asked, one after the other, and nothing arrived."""
    net = SlowNet(tree, holder)
    for node in nodes:
        net.ask(node)
    return net


def slow_lines_to_come(net):
    """All lines to which some order of deliveries leads, by a search through all of them."""
    seen, lines, waiting = set(), set(), [net.copied()]
    while waiting:
        now = waiting.pop()
        key = tuple(tuple(now.logs[node]) for node in sorted(now.tree))
        if key in seen:
            continue
        seen.add(key)
        if not now.messages:
            lines.add(tuple(now.line()))
        for sender, receiver, _ in now.messages:
            waiting.append(now.copied())
            waiting[-1].deliver(sender, receiver)
    return sorted(list(line) for line in lines)


def slow_blocker(tree, logs, line):
    """The least node that does not fit, by point 22."""
    wrong = []
    for node in tree:
        seen = slow_view(tree, line, node)
        if seen[:len(logs[node])] != logs[node] or seen.count(node) != logs[node].count(node):
            wrong.append(node)
    return min(wrong, default=None)


def slow_tree_text(tree):
    """The text of a tree, from its edges as sets of two nodes."""
    edges = {frozenset((node, other)) for node in tree for other in tree[node]}
    return " ".join("-".join(edge) for edge in sorted(map(sorted, edges))) or min(tree)


def slow_tree_of(text):
    """The tree with a text, or None, sentence by sentence of points 6 and 25."""
    if re.fullmatch(NAME, text):
        return {text: []}
    if not re.fullmatch(f"{NAME}-{NAME}( {NAME}-{NAME})*", text):
        return None
    edges = [tuple(word.split("-")) for word in text.split(" ")]
    nodes = sorted({node for edge in edges for node in edge})
    if edges != sorted(set(edges)) or any(x >= y for x, y in edges) or not len(nodes) == len(edges) + 1 <= 40:
        return None
    tree = {node: [x if y == node else y for x, y in edges if node in (x, y)] for node in nodes}
    found = nodes[:1]
    for node in found:
        found += [other for other in tree[node] if other not in found]
    return {node: sorted(tree[node]) for node in nodes} if len(found) == len(nodes) else None


def edits_of_signs(text, signs):
    """The text with one character less, more or another, at each place."""
    for at in range(len(text) + 1):
        for sign in signs:
            yield text[:at] + sign + text[at:]
    for at in range(len(text)):
        yield text[:at] + text[at + 1:]
        for sign in signs:
            yield text[:at] + sign + text[at + 1:]


def edits_of_words(text, sign):
    """The text with words removed, doubled, moved, exchanged or turned around, and with spaces more."""
    words = text.split(sign)
    yield sign.join(words[::-1])
    for at in range(len(words)):
        yield sign.join(words[:at] + words[at + 1:])
        yield sign.join(words[:at] + [words[at]] * 2 + words[at + 1:])
        yield sign.join(words[:at] + words[at + 1:] + [words[at]])
        yield sign.join([words[at]] + words[:at] + words[at + 1:])
        yield sign.join(words[:at] + [words[at], "", *words[at + 1:]])
        yield sign.join(words[:at] + [words[at][::-1]] + words[at + 1:])
        yield sign.join(words[:at] + [words[at].upper()] + words[at + 1:])
        yield sign.join(words[:at])
        yield sign.join(words[at:])
        yield sign.join(words[:at] + words[at + 1:at + 2] + [words[at]] + words[at + 2:])
    for more in (sign, " ", "\n", "\t", "\r", "\x00"):
        yield more + text
        yield text + more


def snapshot(value):
    """What the value is throughout: kinds of values and orders of dicts included."""
    if isinstance(value, dict):
        return ("dict", [(snapshot(key), snapshot(value[key])) for key in value])
    if isinstance(value, (list, tuple)):
        return (type(value).__name__, [snapshot(item) for item in value])
    if isinstance(value, (set, frozenset)):
        return (type(value).__name__, sorted(repr(item) for item in value))
    return (type(value).__name__, value)


def containers(value):
    """All lists and dicts in the value, itself included."""
    found = [value] if isinstance(value, (list, dict)) else []
    if isinstance(value, dict):
        value = list(value) + list(value.values())
    if isinstance(value, (list, tuple)):
        for item in value:
            found += containers(item)
    return found


def spoil(value):
    """Change each list and dict in the value."""
    for held in containers(value):
        if isinstance(held, list):
            held.append("spoilt")
        else:
            held["spoilt"] = "spoilt"


class PromiseCase(unittest.TestCase):
    """Tests whose calls are checked for what point 3 promises of each call."""

    def told(self, function, *values):
        """The result of a call, after the checks that hold for every call."""
        before = snapshot(values)
        result = function(*values)
        again = function(*values)
        self.assertEqual(snapshot(values), before, "an argument was changed")
        self.assertEqual(snapshot(again), snapshot(result), "two equal calls differ")
        made = containers(result) + containers(again)
        self.assertEqual(len({id(held) for held in made}), len(made), "a list or dict appears twice")
        given = {id(held) for held in containers(list(values))}
        self.assertFalse(any(id(held) in given for held in made), "an argument's list or dict is returned")
        for held in made:
            if isinstance(held, dict):
                self.assertEqual(list(held), sorted(held), "a dict is not filled in ascending order")
        shown = snapshot(result)
        spoil(again)
        self.assertEqual(snapshot(function(*values)), shown, "a changed result has an effect")
        self.assertEqual(snapshot(values), before, "a changed result changes an argument")
        return result

    def fails(self, error, function, *values):
        """The error of a call, which is of this class itself; the arguments stay as they are."""
        before = snapshot(values)
        with self.assertRaises(error) as caught:
            function(*values)
        self.assertIs(type(caught.exception), error)
        self.assertEqual(snapshot(values), before, "an argument was changed")
        return caught.exception

    def same_however_filled(self, function, tree, *rest):
        """The result of a call, which is the same for each order in which the tree was filled."""
        result = self.told(function, tree, *rest)
        for other in filled_otherwise(tree):
            self.assertEqual(snapshot(self.told(function, other, *rest)), snapshot(result))
        return result
