"""Trees: names, nodes, edges, paths and directions (points 6 and 7)."""

from asklines.errors import NoName, NoNode, NoTree, Taken, TooMany

MOST_NODES = 40
MOST_LETTERS = 8


def is_name(value):
    """Return whether any value is a name."""
    return (
        isinstance(value, str)
        and 1 <= len(value) <= MOST_LETTERS
        and all("a" <= letter <= "z" for letter in value)
    )


def is_tree(value):
    """Return whether any value is a tree."""
    # Each test relies on those before it: names can be compared,
    # and only lists that are known to hold nodes can be walked along.
    return (
        isinstance(value, dict)
        and 1 <= len(value) <= MOST_NODES
        and all(is_name(node) for node in value)
        and all(_has_proper_list(value, node) for node in value)
        and all(node in value[other] for node in value for other in value[node])
        and _is_one_piece_without_cycles(value)
    )


def _has_proper_list(graph, node):
    """Return whether the node has a list of other nodes, ascending and without duplicates."""
    row = graph[node]
    return (
        isinstance(row, list)
        and all(is_node(graph, other) for other in row)
        and node not in row
        and row == sorted(set(row))
    )


def _is_one_piece_without_cycles(graph):
    """Return whether there is exactly one path between any two nodes of a graph."""
    # A connected graph has no cycle if and only if it has one edge less than
    # nodes; each edge stands in two lists.
    ends = sum([len(graph[node]) for node in graph])
    return ends == 2 * len(graph) - 2 and len(steps_to(graph, min(graph))) == len(graph)


def is_node(tree, value):
    """Return whether any value is a node of the tree."""
    # A value that is no string may be one that a dict cannot look up.
    return isinstance(value, str) and value in tree


def check_tree(tree):
    """Raise NoTree if a value is not a tree."""
    if not is_tree(tree):
        raise NoTree("not a tree")


def check_node(tree, node):
    """Raise NoNode if a value is not a node of the tree."""
    if not is_node(tree, node):
        raise NoNode("not a node of the tree")


def steps_to(tree, target):
    """Return a dict from each node to its direction to the target."""
    steps = {target: target}
    waiting = [target]
    while waiting:
        node = waiting.pop()
        for neighbour in tree[node]:
            if neighbour not in steps:
                steps[neighbour] = node
                waiting.append(neighbour)
    return steps


def follow(steps, node):
    """Return the list of the nodes from a node to the target of the steps."""
    path = [node]
    while steps[path[-1]] != path[-1]:
        path.append(steps[path[-1]])
    return path


def edge_of(node, neighbour):
    """Return the edge between two neighbours."""
    return (min(node, neighbour), max(node, neighbour))


def edges_of(tree):
    """Return the list of the edges in ascending order."""
    check_tree(tree)
    return [(node, other) for node in sorted(tree) for other in tree[node] if node < other]


def path_between(tree, node, other):
    """Return the list of the nodes on the path between two nodes, both included."""
    check_tree(tree)
    check_node(tree, node)
    check_node(tree, other)
    return follow(steps_to(tree, other), node)


def direction(tree, node, other):
    """Return the direction from a node to another, or to itself."""
    check_tree(tree)
    check_node(tree, node)
    check_node(tree, other)
    return steps_to(tree, other)[node]


def with_leaf(tree, name, neighbour):
    """Return the tree with an additional node that has one neighbour."""
    check_tree(tree)
    if not is_name(name):
        raise NoName("not a name")
    if name in tree:
        raise Taken("the name is a node already")
    check_node(tree, neighbour)
    if len(tree) == MOST_NODES:
        raise TooMany(len(tree) + 1)
    grown = {}
    for node in sorted([*tree, name]):
        grown[node] = [neighbour] if node == name else list(tree[node])
    grown[neighbour] = sorted([*tree[neighbour], name])
    return grown
