"""Lines: requests, views, crossings and messages (points 8, 14, 15 and 17)."""

from asklines.errors import NoLine
from asklines.trees import check_node, check_tree, edge_of, edges_of, follow, is_node, steps_to

MOST_ENTRIES = 400


def is_line(tree, value):
    """Return whether any value is a line of the tree."""
    check_tree(tree)
    return (
        isinstance(value, list)
        and 1 <= len(value) <= MOST_ENTRIES
        and all(is_node(tree, entry) for entry in value)
    )


def check_line(tree, line):
    """Raise NoTree if a value is not a tree, NoLine if a value is not a line of it."""
    if not is_line(tree, line):
        raise NoLine("not a line of the tree")


def requests_of(tree, line):
    """Return the list of the requests of the line, one for each entry."""
    check_line(tree, line)
    asked = {node: 0 for node in tree}
    requests = [(line[0], 0)]
    for node in line[1:]:
        asked[node] += 1
        requests.append((node, asked[node]))
    return requests


def step_table(tree):
    """Return a dict from each target to the directions of all nodes to it."""
    return {target: steps_to(tree, target) for target in tree}


def view_by(table, line, node):
    """Return the view of the line at the node, by the directions in a step table."""
    seen = []
    for k in range(1, len(line)):
        step = table[line[k]][node]
        if step == node or step != table[line[k - 1]][node]:
            seen.append(step)
    return seen


def view(tree, line, node):
    """Return the view of the line at the node."""
    check_line(tree, line)
    check_node(tree, node)
    return view_by(step_table(tree), line, node)


def views(tree, line):
    """Return a dict from each node to the view of the line at this node."""
    check_line(tree, line)
    table = step_table(tree)
    return {node: view_by(table, line, node) for node in sorted(tree)}


def crossings(tree, line):
    """Return a dict from each edge to the number of requests that cross it."""
    check_line(tree, line)
    table = step_table(tree)
    counts = {edge: 0 for edge in edges_of(tree)}
    for k in range(1, len(line)):
        path = follow(table[line[k - 1]], line[k])
        for at in range(1, len(path)):
            counts[edge_of(path[at - 1], path[at])] += 1
    return counts


def message_count(tree, line):
    """Return the number of messages of all requests of the line together."""
    return sum(crossings(tree, line).values())
