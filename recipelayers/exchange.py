"""Orders of layers that make the same."""

from itertools import permutations

from recipelayers.layers import joined
from recipelayers.parting import apart, entry_paths
from recipelayers.words import words_together


def may_swap(lower, upper):
    """Whether two Layers make the same in both orders."""
    return (lower | upper) == (upper | lower)


def orders(layers):
    """All orders, ascending, in which Layers make what they make in the order passed."""
    # At a path without an entry the order means nothing: there is nothing if one of the words is "gone".
    columns = [[layer.word(path) for layer in layers] for path in entry_paths(layers)]
    told = [(words, words_together(words)) for words in columns if may_differ(words)]
    return [order for order in permutations(range(len(layers))) if all_stay(told, order)]


def parted(layers, order):
    """None if Layers make the same in an order as in the order passed, or a Tree that parts them."""
    return apart(joined(layers), joined([layers[at] for at in order]))


def may_differ(words):
    """Whether the words at a path are not all the same, but for "keep"."""
    told = [word for word in words if word != "keep"]
    return any([word != told[0] for word in told])


def all_stay(told, order):
    """Whether the words at each path, told with what they make, make the same in an order."""
    for words, whole in told:
        if words_together([words[at] for at in order]) != whole:
            return False
    return True
