"""A desk: one net, and the commands that change it and ask about it (point 26)."""

from asklines.errors import NoCommand, NoNet, NoText
from asklines.nets import Net
from asklines.texts import read_tree
from asklines.tocome import blocker_by
from asklines.trees import check_node, is_name

MOST_DIGITS = 9


def _request_text(request):
    """Return a request as words."""
    node, number = request
    return f"{node} {number}"


def _ask(net, words):
    """Let a node ask, and tell the request."""
    return _request_text(net.ask(words[0]))


def _deliver(net, words):
    """Let a message arrive, and tell what became of its request."""
    return "placed" if net.deliver(words[0], words[1]) else "forwarded"


def _leaf(net, words):
    """Let a leaf join."""
    net.add_leaf(words[0], words[1])
    return "ok"


def _settle(net, words):
    """Settle the net, and tell the number of deliveries."""
    return str(net.settle())


def _arrow(net, words):
    """Tell the arrow of a node."""
    check_node(net.current_tree(), words[0])
    return net.arrow_map()[words[0]]


def _log(net, words):
    """Tell the log of a node."""
    return " ".join(net.local_log(words[0])) or "empty"


def _pending(net, words):
    """Tell the messages under way."""
    shown = [f"{sender}>{receiver}:{node}.{number}" for sender, receiver, (node, number) in net.pending()]
    return " ".join(shown) or "none"


def _ahead(net, words):
    """Tell the request directly ahead of a request."""
    request = net.ahead((words[0], int(words[1])))
    return "unknown" if request is None else _request_text(request)


def _line(net, words):
    """Tell the line, which may be longer than a line that can be shown."""
    return " ".join(net.request_line())


def _can(net, words):
    """Tell whether a line can still come."""
    node = blocker_by(net.current_tree(), net.holder(), net.local_logs(), words)
    return "yes" if node is None else f"blocked {node}"


# What a command needs a net for; the word `net` itself makes one.
ACTIONS = {
    "ask": _ask,
    "deliver": _deliver,
    "leaf": _leaf,
    "settle": _settle,
    "arrow": _arrow,
    "log": _log,
    "pending": _pending,
    "ahead": _ahead,
    "line": _line,
    "can": _can,
}

# How many names stand behind the word, where it is always the same number of
# them and nothing else.
NAMES_BEHIND = {"ask": 1, "deliver": 2, "leaf": 2, "settle": 0, "arrow": 1, "log": 1, "pending": 0, "line": 0}


def _fits(word, rest):
    """Return whether the words of a row, the first one and the rest, are a command that needs a net."""
    if word == "ahead":
        return len(rest) == 2 and is_name(rest[0]) and _is_number(rest[1])
    fits = len(rest) >= 1 if word == "can" else len(rest) == NAMES_BEHIND.get(word)
    return fits and all(is_name(entry) for entry in rest)


def _is_number(word):
    """Return whether a word is a number as it stands in a command."""
    return (
        1 <= len(word) <= MOST_DIGITS
        and all("0" <= digit <= "9" for digit in word)
        and (word == "0" or word[0] != "0")
    )


def _new_net(words):
    """Return the net of which the words behind `net` tell."""
    if len(words) < 2 or not is_name(words[0]):
        raise NoCommand("not a node and a tree")
    try:
        tree = read_tree(" ".join(words[1:]))
    except NoText:
        raise NoCommand("not the text of a tree") from None
    return Net(tree, words[0])


class Desk:
    """A place for one net, which commands make, change and ask about."""

    def __init__(self):
        self._net = None

    def command(self, row):
        """Run one command, and return its result, a text."""
        words = row.split(" ") if isinstance(row, str) else [""]
        word, rest = words[0], words[1:]
        if word == "net":
            self._net = _new_net(rest)
            return "ok"
        if not _fits(word, rest):
            raise NoCommand("not a command")
        if self._net is None:
            raise NoNet("there is no net yet")
        action = ACTIONS[word]
        return action(self._net, rest)
