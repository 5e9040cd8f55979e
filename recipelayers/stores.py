"""Stores of layers, and what it costs to squash the layers of a stack in groups."""

from itertools import combinations

from recipelayers.errors import TooMany, Wrong
from recipelayers.kinds import is_plain
from recipelayers.layers import Layer, joined
from recipelayers.stacks import are_layers

MOST_STORED = 60


class Store:
    """A set of layers."""

    def __init__(self, layers=()):
        if not are_layers(layers) or len(layers) > MOST_STORED:
            raise Wrong(0)
        self._layers = different(layers)

    def __eq__(self, other):
        if not isinstance(other, Store) or len(self._layers) != len(other._layers):
            return False
        return all([layer in other._layers for layer in self._layers])

    def __len__(self):
        return len(self._layers)

    def __contains__(self, thing):
        return isinstance(thing, Layer) and thing in self._layers

    def layers(self):
        """The list of the different Layers, each where it was passed first."""
        return list(self._layers)

    def more(self, layers):
        """The Store with these Layers behind its own."""
        return Store(different([*self._layers, *layers]))


def cost(stack, store, begin, end, *, price=1):
    """What the group of the layers of a Stack from an index to before another one costs."""
    layer = joined(stack.layers()[begin:end])
    return 0 if len(layer) == 0 or layer in store else layer.weight() + price


def cheapest(stack, store, *, price=1, most=8):
    """The tuple (cost, cut) of the cut that costs least; of several the one with the fewest groups, then the least."""
    costs = group_costs(stack, store, price)
    # They come with the fewest groups first, then ascending, and the first of the cheapest ones is taken.
    told = [(sum([costs[group] for group in zip(cut, cut[1:])]), cut) for cut in cuts(len(stack), most)]
    return min(told, key=lambda row: row[0])


def prices(stack, store, *, price=1, most=8):
    """For each number of layers, the lowest ones, a list: by the number of groups what the cheapest cut costs."""
    costs = group_costs(stack, store, price)
    table = [[0] + [None] * most]
    for end in range(1, len(stack) + 1):
        table.append([None, *[least_sum(table, costs, end, groups) for groups in range(1, most + 1)]])
    return table


def is_prices(stack, store, thing, *, price=1, most=8):
    """Whether thing, any value, is the list that prices returns."""
    return is_plain(thing, prices(stack, store, price=price, most=most))


def different(layers):
    """The different ones of Layers, each where it stands first; they must not be more than a Store has."""
    found = []
    for layer in layers:
        if layer not in found:
            if len(found) == MOST_STORED:
                raise TooMany(MOST_STORED)
            found.append(layer)
    return found


def group_costs(stack, store, price):
    """What the groups of a Stack cost, by the tuples (begin, end)."""
    groups = list(combinations(range(len(stack) + 1), 2))
    return {(begin, end): cost(stack, store, begin, end, price=price) for begin, end in groups}


def cuts(many, most):
    """The cuts of many layers into at most most groups, those with fewer ahead, those with as many ascending."""
    if many == 0:
        return [[0]]
    return [[0, *inner, many] for inside in range(min(many, most)) for inner in combinations(range(1, many), inside)]


def least_sum(table, costs, end, groups):
    """What the cheapest cut of the layers before end into this many groups costs, or None, by the rows ahead."""
    before = [(begin, table[begin][groups - 1]) for begin in range(end)]
    return min([told + costs[(begin, end)] for begin, told in before if told is not None], default=None)
