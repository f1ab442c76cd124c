"""Lines that can still come from a net with given logs (point 22)."""

from itertools import permutations

from asklines.errors import Blocked, NoLine, TooMany
from asklines.lines import is_line, views
from asklines.logs import check_no_clash, net_by
from asklines.trees import follow

MOST_MESSAGES = 6


def blocker(tree, holder, logs, line):
    """Return the least node whose log does not fit the line, or None if the line can still come."""
    check_no_clash(tree, holder, logs)
    return blocker_by(tree, holder, logs, line)


def blocker_by(tree, holder, logs, line):
    """Return what blocker does, for the logs of some net, which may be longer than proper logs."""
    if not is_line(tree, line) or line[0] != holder:
        raise NoLine("not a line of the tree that begins with the holder")
    seen = views(tree, line)
    for node in sorted(tree):
        log = logs[node]
        if log != seen[node][:len(log)] or log.count(node) != seen[node].count(node):
            return node
    return None


def deliveries(tree, holder, logs, line):
    """Return the list of the deliveries (sender, receiver) that lead to the line."""
    wrong = blocker(tree, holder, logs, line)
    if wrong is not None:
        raise Blocked(wrong)
    seen = views(tree, line)
    net = net_by(tree, holder, logs)
    done = {node: len(logs[node]) for node in tree}
    found = []
    messages = net.pending()
    while messages:
        sender, receiver = _least_that_fits(messages, seen, done)
        net.deliver(sender, receiver)
        done[receiver] += 1
        found.append((sender, receiver))
        messages = net.pending()
    return found


def _least_that_fits(messages, seen, done):
    """Return the least (sender, receiver) for which the receiver's view goes on with the sender."""
    # There is one as long as the line can come, and it can come after such a delivery.
    return min([(sender, receiver) for sender, receiver, _ in messages if seen[receiver][done[receiver]] == sender])


def lines_to_come(tree, holder, logs):
    """Return the list of all lines that can still come, in ascending order."""
    net = net_by(tree, holder, logs)
    segments = net.segments()
    moves = _moves_between(net, segments)
    if len(moves) > MOST_MESSAGES:
        raise TooMany(len(moves))
    # Each such line also comes if the messages travel one after the other, each
    # straight to its place. Several orders may lead to the same line.
    rows = sorted({_row_by(order) for order in permutations(moves)})
    return sorted([[node for k in row for node, _ in segments[k]] for row in rows])


def _moves_between(net, segments):
    """Return a tuple (source, target, moved) of segments' numbers for each message under way."""
    # The messages part the tree; the arrows of each part lead to the node at
    # which one segment ends. So each part goes by the number of that segment.
    arrows = net.arrow_map()
    parts = {segment[-1][0]: k for k, segment in enumerate(segments)}
    numbers = {segment[0]: k for k, segment in enumerate(segments)}
    moves = []
    for sender, receiver, request in net.pending():
        source = parts[follow(arrows, sender)[-1]]
        target = parts[follow(arrows, receiver)[-1]]
        moves.append((source, target, numbers[request]))
    return moves


def _row_by(moves):
    """Return a tuple of the segments' numbers in the line to which these moves lead, one after the other."""
    ends = list(range(len(moves) + 1))
    behind = {}
    for source, target, moved in moves:
        last = ends[target]
        behind[last] = moved
        # The two parts become one, whose arrows lead to where the message came from.
        ends = [ends[source] if end == last else end for end in ends]
    row = [0]
    while row[-1] in behind:
        row.append(behind[row[-1]])
    return tuple(row)
