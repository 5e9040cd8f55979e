"""Stacks: a tree and the layers that lie on it."""

from recipelayers.errors import NoLayer, TooMany, Wrong
from recipelayers.kinds import is_integer
from recipelayers.layers import Layer, joined
from recipelayers.trees import Tree

MOST_LAYERS = 8


class Stack:
    """A Tree, its start, and a list of Layers, the lowest one first."""

    def __init__(self, start, layers=()):
        if not isinstance(start, Tree):
            raise Wrong(0)
        if not are_layers(layers) or len(layers) > MOST_LAYERS:
            raise Wrong(1)
        self._start = start
        self._layers = list(layers)

    def __eq__(self, other):
        return isinstance(other, Stack) and self._start == other._start and self._layers == other._layers

    def __len__(self):
        return len(self._layers)

    def __or__(self, other):
        """The Stack with a layer, the other one, at the top as well."""
        if len(self._layers) >= MOST_LAYERS:
            raise TooMany(MOST_LAYERS)
        return Stack(self._start, [*self._layers, other])

    def start(self):
        """The Tree on which the layers lie."""
        return self._start

    def layers(self):
        """The list of the Layers."""
        return list(self._layers)

    def tree(self):
        """The Tree that all layers make of the start."""
        return self.after(len(self._layers))

    def after(self, many):
        """The Tree that the first many layers make of the start."""
        check_number(many, 0, len(self._layers))
        tree = self._start
        for layer in self._layers[:many]:
            tree = tree | layer
        return tree

    def walk(self):
        """The Trees after no layer, after one, and so on."""
        tree = self._start
        yield tree
        for layer in self._layers:
            tree = tree | layer
            yield tree

    def without(self, at):
        """The Stack without one layer."""
        check_number(at, 0, len(self._layers) - 1)
        return Stack(self._start, self._layers[:at] + self._layers[at + 1:])

    def squashed(self, begin, end):
        """The Layer that the layers from an index to before another one make together."""
        check_number(begin, 0, len(self._layers))
        check_number(end, begin, len(self._layers))
        return joined(self._layers[begin:end])

    def givers(self, path):
        """The indexes of the layers that tell the node at a path, from the top, and None for the start."""
        told = []
        for at in reversed(range(len(self._layers))):
            word = self._layers[at].word(path)
            if word != "keep":
                told.append(at)
                if word != ("folder", None):
                    return told
        return [*told, None]

    def shown_without(self, path, at):
        """The node at a path in the Tree of the Stack without one layer, or None."""
        return self.without(at).tree().node(path)

    def exposed(self, at):
        """The paths at which the Tree of the Stack without one layer is another one, in ascending order."""
        return self.tree().apart(self.without(at).tree())


def are_layers(thing):
    """Whether thing is a list or a tuple of Layers."""
    return isinstance(thing, (list, tuple)) and all([isinstance(layer, Layer) for layer in thing])


def check_number(number, least, most):
    """Raise NoLayer unless number is an integer from least to most."""
    if not is_integer(number) or not least <= number <= most:
        raise NoLayer(number)
