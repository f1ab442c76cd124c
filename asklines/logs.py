"""Logs: proper logs, edge views, clashes, and what the logs determine (points 18 to 21)."""

from asklines.errors import Clash, NoLogs, NoNode
from asklines.nets import Net
from asklines.trees import check_node, check_tree, edges_of, is_node, steps_to

MOST_LOGGED = 400


def are_logs(tree, holder, value):
    """Return whether any value is proper logs for the tree and the holder."""
    check_tree(tree)
    check_node(tree, holder)
    steps = steps_to(tree, holder)
    return (
        isinstance(value, dict)
        and len(value) == len(tree)
        and all(is_node(tree, node) for node in value)
        and all(_is_log(value[node], node, tree[node], steps[node]) for node in value)
    )


def _is_log(value, node, neighbours, arrow):
    """Return whether any value is a proper log of the node, whose arrow at the start is given."""
    if not isinstance(value, list) or len(value) > MOST_LOGGED:
        return False
    known = [node, *neighbours]
    for entry in value:
        if not isinstance(entry, str) or entry not in known:
            return False
        # The arrow is the entry before; no message comes from where it leads.
        if entry == arrow and entry != node:
            return False
        arrow = entry
    return True


def check_logs(tree, holder, logs):
    """Raise NoTree, NoNode or NoLogs if a value is not a tree, a holder of it or proper logs for both."""
    if not are_logs(tree, holder, logs):
        raise NoLogs("not proper logs for this tree and this holder")


def edge_view(tree, holder, logs, node, neighbour):
    """Return the edge view at the node for its neighbour."""
    check_logs(tree, holder, logs)
    check_node(tree, node)
    if not is_node(tree, neighbour) or neighbour not in tree[node]:
        raise NoNode("not a neighbour of the node")
    return _edge_view_by(steps_to(tree, holder), logs, node, neighbour)


def _edge_view_by(steps, logs, node, neighbour):
    """Return the edge view at the node, by the directions to the holder."""
    seen = []
    for entry in [steps[node], *logs[node]]:
        side = neighbour if entry == neighbour else node
        if seen[-1:] != [side]:
            seen.append(side)
    return seen


def clash(tree, holder, logs):
    """Return the least edge that clashes, or None."""
    check_logs(tree, holder, logs)
    steps = steps_to(tree, holder)
    for node, other in edges_of(tree):
        one = _edge_view_by(steps, logs, node, other)
        two = _edge_view_by(steps, logs, other, node)
        if one != two and one != [*two, node] and two != [*one, other]:
            return (node, other)
    return None


def check_no_clash(tree, holder, logs):
    """Raise NoTree, NoNode or NoLogs as check_logs does, Clash if an edge clashes."""
    edge = clash(tree, holder, logs)
    if edge is not None:
        raise Clash(edge)


def net_by(tree, holder, logs):
    """Return a net with these logs; raise what check_no_clash raises."""
    check_no_clash(tree, holder, logs)
    net = Net(tree, holder)
    done = {node: 0 for node in tree}
    waiting = sorted(tree)
    while waiting:
        node = waiting.pop()
        before = done[node]
        done[node] = _carry_out(net, node, logs[node], before)
        # What the node did may have sent a neighbour the message that it waits for.
        if done[node] > before:
            waiting.extend(tree[node])
    return net


def _carry_out(net, node, log, start):
    """Let the node do what its log tells from entry start on; return the entry for which a message is missing."""
    for at in range(start, len(log)):
        if log[at] == node:
            net.ask(node)
        elif net.has_message(log[at], node):
            net.deliver(log[at], node)
        else:
            return at
    return len(log)


def state_by(tree, holder, logs):
    """Return a tuple of the arrows, the messages and the segments of the net with these logs."""
    net = net_by(tree, holder, logs)
    return (net.arrow_map(), net.pending(), net.segments())


def line_by(tree, holder, logs):
    """Return the line of the settled net with these logs."""
    return net_by(tree, holder, logs).request_line()
