"""The trees that told bases and layers can show."""

from recipelayers.kinds import is_integer
from recipelayers.layers import joined
from recipelayers.least import weight


def reached(bases, layers):
    """The first way, in their order, to each tree that some way has."""
    return [way for way, _ in first_ways(bases, layers)]


def is_closed(bases, layers, thing):
    """Whether thing, any value, is a list of ways to different trees that leads to no other trees."""
    if not isinstance(thing, list) or not all([is_way(way, len(bases), len(layers)) for way in thing]):
        return False
    ranks = [(len(order), base, order) for base, order in thing]
    if not all([one < other for one, other in zip(ranks, ranks[1:])]):
        return False
    trees = [bases[base] | joined([layers[at] for at in order]) for base, order in thing]
    if not all([tree not in trees[:at] for at, tree in enumerate(trees)]):
        return False
    orders = [order for _, order in thing]
    if not all([is_shown(base, trees, orders, 0) for base in bases]):
        return False
    return all([is_shown(tree | layers[at], trees, orders, len(order) + 1)
                for tree, order in zip(trees, orders) for at in range(len(layers)) if at not in order])


def nearest(bases, layers, goal):
    """The least weight from the tree of a way to the Tree goal, and the first way that has it."""
    told = [(weight(tree, goal), way) for way, tree in first_ways(bases, layers)]
    return min(told, key=lambda row: row[0])


def first_ways(bases, layers):
    """The tuples (way, tree) of the ways that reached tells."""
    found = []
    trees = []
    for way, tree in all_ways(bases, layers):
        if tree not in trees:
            trees.append(tree)
            found.append((way, tree))
    return found


def all_ways(bases, layers):
    """The tuples (way, tree) of all ways, in their order."""
    longest = [((base, ()), tree) for base, tree in enumerate(bases)]
    found = list(longest)
    for _ in layers:
        longest = [((base, (*order, at)), tree | layer)
                   for (base, order), tree in longest for at, layer in enumerate(layers) if at not in order]
        found.extend(longest)
    return found


def is_way(thing, bases, layers):
    """Whether thing is a way for this many bases and layers."""
    if not isinstance(thing, tuple) or len(thing) != 2 or not is_index(thing[0], bases):
        return False
    order = thing[1]
    if not isinstance(order, tuple) or not all([is_index(at, layers) for at in order]):
        return False
    return len({at for at in order}) == len(order)


def is_index(thing, many):
    """Whether thing is an index of one of many."""
    return is_integer(thing) and 0 <= thing < many


def is_shown(tree, trees, orders, most):
    """Whether one of these trees is this one, and its order has at most this many layers."""
    return any([tree == other and len(order) <= most for other, order in zip(trees, orders)])
