"""The errors that the package raises; each stands directly under AskError."""


class AskError(ValueError):
    """The base class of all errors that the package raises."""


class NoTree(AskError):
    """A value is not a tree."""


class NoName(AskError):
    """A value is not a name."""


class NoNode(AskError):
    """A value is not a node of the tree."""


class Taken(AskError):
    """A name for a new node is a node already."""


class NoLine(AskError):
    """A value is not a line."""


class NoMessage(AskError):
    """No message is under way between the two nodes."""


class NoRequest(AskError):
    """A value is not a request that exists."""


class NoLogs(AskError):
    """A value is not proper logs."""


class NoAskers(AskError):
    """A value is not a list of askers."""


class NoNumber(AskError):
    """A value is not the number of a possible order."""


class NoOrder(AskError):
    """A value is not a possible order."""


class NoText(AskError):
    """A value is not the text that is to be read."""


class NoCommand(AskError):
    """A value is not a command."""


class NoNet(AskError):
    """A desk has no net yet."""


class TooMany(AskError):
    """There are more than a limit allows; `many` tells how many."""

    def __init__(self, many):
        self.many = many


class Unsettled(AskError):
    """A net is not settled; `many` messages are under way."""

    def __init__(self, many):
        self.many = many


class Clash(AskError):
    """Logs do not fit together; `edge` is the least edge that clashes."""

    def __init__(self, edge):
        self.edge = edge


class Blocked(AskError):
    """A line can no longer come; `node` is the least node that blocks it."""

    def __init__(self, node):
        self.node = node
