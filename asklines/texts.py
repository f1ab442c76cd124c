"""Text formats: trees, lines and logs as texts, and back (point 25)."""

from asklines.errors import NoLine, NoLogs, NoText
from asklines.lines import MOST_ENTRIES
from asklines.logs import MOST_LOGGED
from asklines.trees import MOST_NODES, edges_of, is_name, is_tree


def show_tree(tree):
    """Return the text of the tree."""
    words = [f"{node}-{other}" for node, other in edges_of(tree)]
    return " ".join(words or list(tree))


def read_tree(text):
    """Return the tree with this text."""
    check_text(text)
    tree = _tree_of_words(text.split(" "))
    # Other rows of words may give the same tree; only one of them is its text.
    if not is_tree(tree) or show_tree(tree) != text:
        raise NoText("not the text of a tree")
    return tree


def check_text(value):
    """Raise NoText if a value is not a string."""
    if not isinstance(value, str):
        raise NoText("not a string")


def _tree_of_words(words):
    """Return a dict from nodes to lists of neighbours, a tree if the words are those of its text."""
    if "-" not in words[0]:
        return {words[0]: []}
    rows = {}
    for word in words:
        node, _, other = word.partition("-")
        rows.setdefault(node, []).append(other)
        rows.setdefault(other, []).append(node)
    # Edges in ascending order have given each node its neighbours in that order.
    return {node: rows[node] for node in sorted(rows)}


def are_names(value, most):
    """Return whether any value is a list of names, at most so many."""
    return isinstance(value, list) and len(value) <= most and all(is_name(entry) for entry in value)


def show_line(line):
    """Return the text of the line."""
    if not are_names(line, MOST_ENTRIES) or not line:
        raise NoLine("not a list of 1 to 400 names")
    return " ".join(line)


def read_line(text):
    """Return the list of names with this text."""
    check_text(text)
    line = text.split(" ")
    if not are_names(line, MOST_ENTRIES):
        raise NoText("not the text of a line")
    return line


def show_logs(logs):
    """Return the text of the logs."""
    if not _are_named_logs(logs):
        raise NoLogs("not a dict from 1 to 40 names to lists of at most 400 names")
    return "\n".join([" ".join([f"{node}:", *logs[node]]) for node in sorted(logs)])


def _are_named_logs(value):
    """Return whether any value is a dict from 1 to 40 names to lists of at most 400 names."""
    return (
        isinstance(value, dict)
        and 1 <= len(value) <= MOST_NODES
        and all(is_name(node) for node in value)
        and all(are_names(value[node], MOST_LOGGED) for node in value)
    )


def read_logs(text):
    """Return the dict from names to lists of names with this text."""
    check_text(text)
    logs = {}
    for row in text.split("\n"):
        words = row.split(" ")
        # What stands here in place of a colon, or twice, is not shown again.
        logs[words[0][:-1]] = words[1:]
    if not _are_named_logs(logs) or show_logs(logs) != text:
        raise NoText("not the text of logs")
    return logs
