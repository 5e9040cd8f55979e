"""[31], [5], [6] and [7]: layers on trees and on layers."""

import unittest

from recipelayers.layers import Layer, joined
from recipelayers.trees import Tree
from samples import (A, AA, AB, B, CLEARED, FILE, FIVE, GONE, KEPT, LINK, SEVEN, Checks, check_example, model_laid,
                     model_word, small_layers, small_trees)

EXAMPLE = """
>>> from recipelayers.layers import Layer
>>> put = Layer([(('a',), ('folder', None)), (('a', 'b'), ('file', 'y', 4))])
>>> (Layer([(('a',), ('file', 'x', 4))]) | put).rows()
[(('a',), ('opaque', 5)), (('a', 'b'), ('file', 'y', 4))]
>>> (Layer([(('a',), ('cleared',))]) | put).rows()[0]
(('a',), ('opaque', None))
"""

FEW_ENTRIES = (FILE, FIVE, KEPT, ("opaque", None), ("opaque", 7), GONE, CLEARED)


def told_word(lower, upper):
    """The word of two layers together, in the words of [31]."""
    if upper not in ("keep", KEPT):
        return upper
    if upper == "keep":
        return lower
    if lower in ("keep", KEPT):
        return KEPT
    return lower if lower[0] == "folder" else FIVE


class TestLaying(Checks, unittest.TestCase):

    def test_example(self):
        check_example(self, EXAMPLE)

    def test_a_tree_with_a_layer_is_what_the_definition_says(self):
        trees = small_trees((A, AA, AB), (FILE, FIVE, SEVEN))
        for layer in small_layers((A, AA)):
            for tree in trees:
                self.assertEqual((tree | layer).rows(), model_laid(tree, layer))

    def test_words_one_by_one(self):
        tree = Tree([(A, SEVEN), (AA, FILE), (B, FILE), (("c",), SEVEN), (("c", "c"), FILE)])
        cases = [
            ([(A, KEPT)], tree.rows()),
            ([(A, ("opaque", None)), (AB, LINK)], [(A, SEVEN), (AB, LINK), *tree.rows()[2:]]),
            ([(A, ("opaque", 0))], [(A, ("folder", 0)), *tree.rows()[2:]]),
            ([(A, FIVE)], [(A, FIVE), *tree.rows()[1:]]),
            ([(A, GONE)], tree.rows()[2:]),
            ([(A, CLEARED)], [(A, SEVEN), *tree.rows()[2:]]),
            ([(B, CLEARED), (("d",), CLEARED), (("e", "e"), GONE)], tree.rows()),
            ([(B, KEPT), (("b", "b"), LINK)],
             [*tree.rows()[:2], (B, FIVE), (("b", "b"), LINK), *tree.rows()[3:]]),
            ([(("c",), LINK)], [*tree.rows()[:3], (("c",), LINK)]),
            ([(("d",), KEPT), (("d", "d"), ("opaque", None))], [*tree.rows(), (("d",), FIVE), (("d", "d"), FIVE)]),
            ([], tree.rows()),
        ]
        for rows, wanted in cases:
            self.assertEqual((tree | Layer(rows)).rows(), wanted)
        self.assertIs((tree | Layer()).__class__, Tree)

    def test_what_stands_hangs_on_the_word_and_the_node_there(self):
        # [5]: equal words and nodes at a path give equal nodes there, whatever is elsewhere.
        found = {}
        trees = small_trees((A, AA, B), (FILE, FIVE, SEVEN))
        for layer in small_layers((A, AA), FEW_ENTRIES):
            for tree in trees:
                made = tree | layer
                for path in (A, AA, B):
                    key = repr((layer.word(path), tree.node(path)))
                    self.assertEqual(found.setdefault(key, made.node(path)), made.node(path))


class TestJoining(Checks, unittest.TestCase):

    def test_two_layers_are_one(self):
        # [5] and [31], for all small layers and all trees by which [6] tells layers apart.
        trees = small_trees((A, AA, AB), (FIVE, SEVEN))
        layers = small_layers((A, AA))
        for lower in layers:
            middle = [tree | lower for tree in trees]
            for upper in layers:
                both = lower | upper
                self.assertEqual([tree | both for tree in trees], [tree | upper for tree in middle])

    def test_two_layers_with_three_paths(self):
        trees = small_trees((A, AA, AB), (FIVE, SEVEN)) + [Tree.chain(("a", "a", "a"), FILE)]
        layers = small_layers((A, AA, AB), FEW_ENTRIES)[::5]
        for lower in layers:
            middle = [tree | lower for tree in trees]
            for upper in layers[::3]:
                both = lower | upper
                self.assertEqual([tree | both for tree in trees], [tree | upper for tree in middle])

    def test_the_words_are_those_told(self):
        paths = [A, AA, AB, ("a", "a", "a"), B]
        layers = small_layers((A, AA))
        for lower in layers:
            for upper in layers:
                both = lower | upper
                for path in paths:
                    word = told_word(model_word(lower, path), model_word(upper, path))
                    self.assertEqual([both.word(path), model_word(both, path)], [word, word])

    def test_a_joined_layer_is_written_as_such(self):
        layers = small_layers((A, AA))
        for lower in layers:
            for upper in layers:
                both = lower | upper
                self.assertEqual(Layer(both.rows()).rows(), both.rows())
                self.assertIs(both.__class__, Layer)

    def test_joined(self):
        layers = small_layers((A, AA), FEW_ENTRIES)
        self.assertEqual(joined([]), Layer())
        self.assertIs(joined([]).__class__, Layer)
        for at, one in enumerate(layers):
            self.assertEqual(joined([one]), one)
            two, three = layers[at * 7 % len(layers)], layers[at * 11 % len(layers)]
            self.assertEqual(joined([one, two]), one | two)
            self.assertEqual(joined([one, two, three]), (one | two) | three)
            self.assertEqual(joined([one, two, three]), one | (two | three))
            self.assertEqual(joined([one, Layer(), one]), one)

    def test_joined_changes_nothing(self):
        layers = [Layer([(A, FILE)]), Layer([(A, GONE)])]
        kept = list(layers)
        joined(layers)
        self.assertEqual([layers, layers[0].rows(), layers[1].rows()], [kept, [(A, FILE)], [(A, GONE)]])
        lower, upper = layers
        self.assertEqual([(lower | upper).rows(), (upper | lower).rows()], [[(A, GONE)], [(A, FILE)]])
        self.assertEqual([lower, upper], kept)

    def test_large_layers(self):
        path = ("abcdefgh",) * 20
        folders = [(path[:many], KEPT) for many in range(1, 20)]
        low = Layer([*folders, *[((*path[:19], "x" * many), FILE) for many in range(1, 9)], (path, LINK)])
        high = Layer([(path[:19], GONE)])
        self.assertEqual((low | high).rows(), [*folders[:-1], (path[:19], GONE)])
        self.assertEqual((high | low).rows()[18], (path[:19], ("opaque", 5)))
        self.assertEqual(len(low | high | low), 28)


class TestGuarantees(unittest.TestCase):

    def test_equal_layers(self):
        # [6]: they make the same of all trees if and only if they are equal.
        trees = [Tree()] + [Tree.chain(path, SEVEN) for path in [A, AA, AB, ("a", "a", "a")]]
        layers = small_layers((A, AA))
        made = {}
        for layer in layers:
            made.setdefault(repr([tree | layer for tree in trees]), []).append(layer)
        self.assertEqual(len(made), len(layers))

    def test_the_last_one_counts(self):
        # [7]
        layers = small_layers((A, AA))
        for lower in layers:
            for upper in layers:
                both = lower | upper
                self.assertEqual(both | lower, upper | lower)
                self.assertEqual(lower | both, both)

    def test_a_layer_laid_twice(self):
        for layer in small_layers((A, AA, AB), FEW_ENTRIES):
            self.assertEqual([layer | layer, layer | Layer(), Layer() | layer], [layer, layer, layer])


if __name__ == "__main__":
    unittest.main()
