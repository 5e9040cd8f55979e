"""[43]: orders of layers that make the same."""

import unittest
from itertools import permutations, product

from recipelayers.exchange import may_swap, orders, parted
from recipelayers.layers import Layer, joined
from recipelayers.trees import Tree
from samples import A, AA, AB, B, CLEARED, FILE, FIVE, GONE, KEPT, LINK, SEVEN, Checks, check_example, small_layers

# What the document prints, but for what rests on division.
EXAMPLE = """
>>> from recipelayers.exchange import orders
>>> from recipelayers.layers import Layer
>>> one, two, all_new = Layer([(("x",), ("link", "1"))]), Layer([(("x",), ("link", "2"))]), Layer([(("x",), ("gone",))])
>>> [orders([one, two, all_new])]
[[(0, 1, 2), (1, 0, 2)]]
"""

ENTRIES = (FILE, FIVE, KEPT, ("opaque", None), GONE, CLEARED)


def told_orders(layers):
    """The orders, found by joining the layers in each."""
    whole = joined(layers)
    found = permutations(range(len(layers)))
    return [order for order in found if joined([layers[at] for at in order]) == whole]


class TestSwap(Checks, unittest.TestCase):

    def test_example(self):
        check_example(self, EXAMPLE)

    def test_all_small_layers(self):
        trees = [Tree(), *[Tree.chain(path, SEVEN) for path in [A, AA, AB, ("a", "a", "a")]]]
        layers = small_layers((A, AA))
        for lower in layers:
            for upper in layers:
                same = [tree | lower | upper for tree in trees] == [tree | upper | lower for tree in trees]
                self.assertTruth(same, may_swap(lower, upper))

    def test_some(self):
        put, take = Layer([(A, FIVE)]), Layer([(A, GONE)])
        self.assertTruth(False, may_swap(put, take))
        self.assertTruth(True, may_swap(put, put))
        self.assertTruth(True, may_swap(put, Layer()))
        self.assertTruth(True, may_swap(put, Layer([(B, GONE)])))
        self.assertTruth(True, may_swap(put, Layer([(A, KEPT)])))
        self.assertTruth(False, may_swap(put, Layer([(A, ("opaque", None)), (AA, FILE)]) | Layer([(A, SEVEN)])))
        self.assertTruth(False, may_swap(Layer([(AA, GONE)]), Layer([(A, KEPT), (AA, LINK)])))


class TestOrders(unittest.TestCase):

    def test_small_lists(self):
        self.assertEqual(orders([]), [()])
        for layer in small_layers((A, AA)):
            self.assertEqual(orders([layer]), [(0,)])
            self.assertEqual(orders([layer, layer]), [(0, 1), (1, 0)])

    def test_three_layers(self):
        layers = small_layers((A, AA), ENTRIES)
        for some in list(product(layers[::2], repeat=3))[::5]:
            self.assertEqual(orders(list(some)), told_orders(list(some)))

    def test_four_layers_at_three_paths(self):
        layers = small_layers((A, AA, AB), ENTRIES)
        for at in range(300):
            some = [layers[(at * 31 + k * k * 57 + at * k) % len(layers)] for k in range(4)]
            self.assertEqual(orders(some), told_orders(some))

    def test_six_layers(self):
        same = [Layer([(A, FIVE)])] * 6
        self.assertEqual(orders(same), list(permutations(range(6))))
        files = [Layer([(A, ("file", str(at), 4))]) for at in range(6)]
        self.assertEqual(orders(files), [(*order, 5) for order in permutations(range(5))])
        two = [files[0], files[0], files[1], files[1], files[0], files[1]]
        found = orders(two)
        self.assertEqual(found, told_orders(two))
        self.assertEqual(len(found), 360)

    def test_six_large_layers(self):
        letters = "abcdefghijklmnopqrstuvwxyz"
        layers = [Layer([((letters[at],), FIVE), *[((letters[at], "x" + one + two), LINK)
                                                 for one in "ab" for two in letters]]) for at in range(5)]
        layers.append(Layer([((letters[at],), GONE) for at in range(26)]))
        self.assertEqual(orders(layers), [(*order, 5) for order in permutations(range(5))])

    def test_ascending(self):
        layers = [Layer([(B, FIVE)]), Layer([(A, GONE)]), Layer([(A, FILE)]), Layer([(A, KEPT)])]
        found = orders(layers)
        self.assertEqual(found, sorted(found))
        self.assertIn((0, 1, 2, 3), found)
        self.assertTrue(all(order.__class__ is tuple for order in found))

    def test_not_reached_by_exchanging_neighbours(self):
        # 0 and 1 may not be exchanged as they stand, but what 2 hides may stand in any order beneath it.
        layers = [Layer([(A, LINK)]), Layer([(A, FILE)]), Layer([(A, GONE)])]
        self.assertEqual(may_swap(layers[0], layers[1]), False)
        self.assertEqual(orders(layers), [(0, 1, 2), (1, 0, 2)])

    def test_arguments_stay_and_lists_are_new(self):
        layers = [Layer([(A, LINK)]), Layer([(A, FILE)]), Layer([(A, GONE)])]
        kept = list(layers)
        found = orders(layers)
        found.append(5)
        self.assertEqual([orders(layers), layers], [[(0, 1, 2), (1, 0, 2)], kept])
        parted(layers, (2, 1, 0))
        self.assertEqual(layers, kept)


class TestParted(unittest.TestCase):

    def test_orders_that_make_the_same(self):
        layers = [Layer([(A, LINK)]), Layer([(A, FILE)]), Layer([(A, GONE)])]
        self.assertIsNone(parted(layers, (0, 1, 2)))
        self.assertIsNone(parted(layers, (1, 0, 2)))
        self.assertIsNone(parted([], ()))

    def test_orders_that_do_not(self):
        # In two orders that do not make the same, the tree without rows shows it: "keep" and ("folder", None)
        # are what all orders make of the words at a path, or none of them does.
        layers = small_layers((A, AA, AB), ENTRIES)
        for at in range(200):
            some = [layers[(at * 31 + k * k * 57 + at * k) % len(layers)] for k in range(3)]
            good = orders(some)
            for order in permutations(range(3)):
                tree = parted(some, order)
                self.assertEqual(tree is None, order in good)
                if tree is not None:
                    turned = [some[index] for index in order]
                    self.assertNotEqual(tree | joined(some), tree | joined(turned))
                    self.assertEqual(tree, Tree())


if __name__ == "__main__":
    unittest.main()
