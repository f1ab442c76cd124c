"""Nets: nodes that ask, messages under way, and the line they form (points 8 to 13)."""

from asklines.errors import NoMessage, NoRequest, Unsettled
from asklines.trees import check_node, check_tree, is_node, steps_to, with_leaf


class Net:
    """A tree whose nodes ask, and whose messages arrive in any order."""

    def __init__(self, tree, holder):
        check_tree(tree)
        check_node(tree, holder)
        self._tree = {node: list(tree[node]) for node in sorted(tree)}
        self._holder = holder
        self._arrows = steps_to(tree, holder)
        # From (sender, receiver) to the request: an edge has one message at most.
        self._messages = {}
        self._logs = {node: [] for node in tree}
        # The number of each node's latest request; only the holder has a request 0.
        self._asked = {node: 0 for node in tree}
        self._ahead = {}

    def ask(self, node):
        """Let the node ask, and return the new request."""
        check_node(self._tree, node)
        request = (node, self._asked[node] + 1)
        # Counted last: until it is placed or sent, the request before it is the latest one.
        self._take(node, node, request)
        self._asked[node] += 1
        return request

    def deliver(self, sender, receiver):
        """Let a message arrive, and return whether its request found its place."""
        check_node(self._tree, sender)
        check_node(self._tree, receiver)
        if not self.has_message(sender, receiver):
            raise NoMessage("no message is under way from this sender to this receiver")
        return self._take(receiver, sender, self._messages.pop((sender, receiver)))

    def _take(self, node, source, request):
        """Take a request in at a node, from the node itself or a neighbour; return whether it found its place."""
        arrow = self._arrows[node]
        self._logs[node].append(source)
        self._arrows[node] = source
        if arrow == node:
            self._ahead[request] = (node, self._asked[node])
        else:
            self._messages[(node, arrow)] = request
        return arrow == node

    def has_message(self, sender, receiver):
        """Return whether a message is under way from one node to another."""
        return (sender, receiver) in self._messages

    def add_leaf(self, name, neighbour):
        """Let a new node with one neighbour join."""
        self._tree = with_leaf(self._tree, name, neighbour)
        self._arrows[name] = neighbour
        self._logs[name] = []
        self._asked[name] = 0

    def settle(self):
        """Deliver the least message until none is under way, and return the number of deliveries."""
        count = 0
        while self._messages:
            sender, receiver = min(self._messages)
            self.deliver(sender, receiver)
            count += 1
        return count

    def holder(self):
        """Return the node at which the line begins."""
        return self._holder

    def current_tree(self):
        """Return the tree, with the leaves that joined."""
        return {node: list(self._tree[node]) for node in sorted(self._tree)}

    def arrow_map(self):
        """Return a dict from each node to its arrow."""
        return {node: self._arrows[node] for node in sorted(self._arrows)}

    def pending(self):
        """Return the list of the messages under way in ascending order."""
        return [(sender, receiver, self._messages[(sender, receiver)]) for sender, receiver in sorted(self._messages)]

    def local_logs(self):
        """Return a dict from each node to its log."""
        return {node: list(self._logs[node]) for node in sorted(self._logs)}

    def local_log(self, node):
        """Return the log of the node."""
        check_node(self._tree, node)
        return list(self._logs[node])

    def ahead(self, request):
        """Return the request directly ahead of a request, or None if there is none or it is not known yet."""
        if not self._has_request(request):
            raise NoRequest("not a request that exists")
        return self._ahead.get(request)

    def _has_request(self, value):
        """Return whether any value is a request that exists."""
        if not isinstance(value, tuple) or len(value) != 2:
            return False
        node, number = value
        if not is_node(self._tree, node) or not isinstance(number, int) or isinstance(number, bool):
            return False
        return 1 <= number <= self._asked[node] or value == (self._holder, 0)

    def segments(self):
        """Return the list of the segments, the one that begins with request 0 of the holder first."""
        behind = {self._ahead[request]: request for request in self._ahead}
        # A request is placed once it is no longer under way.
        firsts = [(self._holder, 0), *sorted(self._messages.values())]
        return [_row_from(behind, first) for first in firsts]

    def request_line(self):
        """Return the line of the settled net."""
        if self._messages:
            raise Unsettled(len(self._messages))
        return [node for node, _ in self.segments()[0]]


def _row_from(behind, first):
    """Return the list of the requests from the first one on, each directly behind the one before."""
    row = [first]
    while row[-1] in behind:
        row.append(behind[row[-1]])
    return row
