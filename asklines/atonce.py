"""Simultaneous requests: askers, possible orders and their messages (points 23 and 24)."""

from math import factorial

from asklines.errors import NoAskers, NoNumber, NoOrder
from asklines.trees import check_node, check_tree, follow, is_node, steps_to


def check_askers(tree, holder, askers):
    """Raise NoTree, NoNode or NoAskers if a value is not a tree, a holder of it or askers of it."""
    check_tree(tree)
    check_node(tree, holder)
    if not _is_list_of_nodes(tree, askers) or askers != sorted(set(askers)):
        raise NoAskers("not a list of nodes in ascending order without duplicates")


def _is_list_of_nodes(tree, value):
    """Return whether any value is a list of nodes of the tree."""
    return isinstance(value, list) and all(is_node(tree, entry) for entry in value)


def is_possible(tree, holder, askers, value):
    """Return whether any value is a possible order."""
    check_askers(tree, holder, askers)
    if not _is_list_of_nodes(tree, value) or sorted(value) != askers:
        return False
    # Who stands behind the nearest asker stands behind those further on, too.
    nearest = _nearest_askers(_paths_to(tree, holder, askers))
    return all([nearest[asker] in [None, *value[:at]] for at, asker in enumerate(value)])


def _paths_to(tree, holder, askers):
    """Return a dict from each asker to its path to the holder."""
    steps = steps_to(tree, holder)
    return {asker: follow(steps, asker) for asker in askers}


def _nearest_askers(paths):
    """Return a dict from each asker to the nearest other asker on its path, or None."""
    nearest = {}
    for asker in paths:
        others = [node for node in paths[asker][1:] if node in paths]
        nearest[asker] = others[0] if others else None
    return nearest


def _group_sizes(paths):
    """Return a dict from each asker to the number of askers whose path contains it."""
    return {asker: len([path for path in paths.values() if asker in path]) for asker in paths}


def count_orders(tree, holder, askers):
    """Return the number of possible orders."""
    check_askers(tree, holder, askers)
    divisor = 1
    for size in _group_sizes(_paths_to(tree, holder, askers)).values():
        divisor *= size
    return factorial(len(askers)) // divisor


def nth_order(tree, holder, askers, number):
    """Return the possible order with this number, counted from 0 in ascending order."""
    many = count_orders(tree, holder, askers)
    if not isinstance(number, int) or isinstance(number, bool) or not 0 <= number < many:
        raise NoNumber("not the number of a possible order")
    paths = _paths_to(tree, holder, askers)
    nearest = _nearest_askers(paths)
    sizes = _group_sizes(paths)
    order = []
    left = list(askers)
    while left:
        shares = _shares(nearest, sizes, left, many)
        at = 0
        while number >= shares[at][1]:
            number -= shares[at][1]
            at += 1
        first, many = shares[at]
        order.append(first)
        left.remove(first)
    return order


def _shares(nearest, sizes, left, many):
    """Return a list of tuples (asker, share): of the orders of the askers left, so many begin with this one.

    `many` is the number of all these orders.
    """
    # An asker that comes next is in no other group that is left. So without it
    # point 24 has one factor less above and one group size less below.
    return [(asker, many * sizes[asker] // len(left)) for asker in left if nearest[asker] not in left]


def rank_of(tree, holder, askers, order):
    """Return the number of a possible order."""
    if not is_possible(tree, holder, askers, order):
        raise NoOrder("not a possible order")
    paths = _paths_to(tree, holder, askers)
    nearest = _nearest_askers(paths)
    sizes = _group_sizes(paths)
    number = 0
    many = count_orders(tree, holder, askers)
    left = list(askers)
    for first in order:
        shares = _shares(nearest, sizes, left, many)
        number += sum([share for asker, share in shares if asker < first])
        many = many * sizes[first] // len(left)
        left.remove(first)
    return number


def least_messages(tree, holder, askers):
    """Return the least number of messages of a possible order."""
    check_askers(tree, holder, askers)
    paths = list(_paths_to(tree, holder, askers).values())
    # Each node on a path, except the holder, has one edge on towards the holder.
    edges = len({node for path in paths for node in path[:-1]})
    return 2 * edges - max([len(path) - 1 for path in paths], default=0)


def cheapest_order(tree, holder, askers):
    """Return a possible order with the least number of messages."""
    check_askers(tree, holder, askers)
    steps = steps_to(tree, holder)
    longest = max(list(_paths_to(tree, holder, askers).values()), key=len, default=[])
    order = []
    waiting = [holder]
    # A walk around the tree crosses each edge twice, except those of the way
    # back from where it ends; so it goes to the farthest asker last.
    while waiting:
        node = waiting.pop()
        if node in askers:
            order.append(node)
        beyond = [other for other in tree[node] if other != steps[node]]
        waiting.extend([other for other in beyond if other in longest])
        waiting.extend([other for other in beyond if other not in longest])
    return order
