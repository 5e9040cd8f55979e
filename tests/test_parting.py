"""[40]: trees that part layers."""

import unittest

from recipelayers.layers import Layer
from recipelayers.parting import apart
from recipelayers.trees import Tree
from samples import A, AA, AB, B, CLEARED, FILE, FIVE, GONE, KEPT, LINK, SEVEN, small_layers, small_trees

TWENTY = tuple("abcdefghijklmnopqrst")


class TestApart(unittest.TestCase):

    def check(self, one, other, rows):
        """Both ways, a Tree of so many rows parts them."""
        for first, second in [(one, other), (other, one)]:
            tree = apart(first, second)
            self.assertIs(tree.__class__, Tree)
            self.assertEqual(len(tree), rows)
            self.assertNotEqual(tree | first, tree | second)

    def test_equal_layers(self):
        for layer in small_layers((A, AA)):
            self.assertIsNone(apart(layer, Layer(layer.rows())))
        self.assertIsNone(apart(Layer(), Layer()))

    def test_fewest_rows_of_all_small_trees(self):
        # AB and its kind stand for all names that the layers do not have.
        trees = small_trees((A, AA, AB, ("a", "a", "b")), (LINK, FIVE, SEVEN))
        trees = sorted(trees, key=len)
        layers = small_layers((A, AA))
        made = [[tree | layer for tree in trees] for layer in layers]
        for at, one in enumerate(layers):
            for other_at in range(at):
                pairs = zip(trees, made[at], made[other_at])
                self.check(one, layers[other_at], next(len(tree) for tree, left, right in pairs if left != right))

    def test_a_tree_without_rows(self):
        self.check(Layer([(A, FILE)]), Layer(), 0)
        self.check(Layer([(A, KEPT)]), Layer(), 0)
        self.check(Layer([(A, FIVE)]), Layer([(A, SEVEN)]), 0)
        self.check(Layer([(A, LINK)]), Layer([(A, GONE)]), 0)

    def test_keep_and_gone(self):
        for path in [A, AA, ("x", "y", "z"), TWENTY]:
            self.check(Layer([(path, GONE)]), Layer(), len(path))
        self.check(Layer([(AA, GONE)]), Layer([(AB, GONE)]), 2)
        self.check(Layer([(AA, GONE)]), Layer([(B, GONE)]), 1)

    def test_kept_folder_and_five(self):
        for many in [1, 2, 3, 20]:
            folders = [(TWENTY[:length], KEPT) for length in range(1, many)]
            path = TWENTY[:many]
            self.check(Layer([*folders, (path, KEPT)]), Layer([*folders, (path, FIVE)]), many)
            self.check(Layer([*folders, (path, ("opaque", None))]), Layer([*folders, (path, ("opaque", 5))]), many)

    def test_what_differs_only_beneath(self):
        self.check(Layer([(A, CLEARED)]), Layer(), 2)
        self.check(Layer([(TWENTY, CLEARED)]), Layer(), 21)
        self.check(Layer([(A, KEPT)]), Layer([(A, ("opaque", None))]), 2)
        rows = [((*A, name), FILE) for name in "abcdefghijklmnopqrstuvwxyz"]
        self.check(Layer([(A, SEVEN), *rows]), Layer([(A, ("opaque", 7)), *rows]), 2)

    def test_the_shortest_path_of_several(self):
        one = Layer([(("a", "b", "c"), GONE), (("z", "y"), GONE)])
        self.check(one, Layer(), 2)
        self.check(one, Layer([(("z", "y"), GONE)]), 3)
        self.check(Layer([(A, CLEARED), (B, GONE)]), Layer(), 1)
        folders = [(A, KEPT), (AA, KEPT)]
        self.check(Layer([*folders, (B, GONE)]), Layer([(A, KEPT), (AA, FIVE)]), 1)

    def test_arguments_stay(self):
        one, other = Layer([(A, CLEARED)]), Layer([(AA, GONE)])
        self.assertEqual([apart(one, other) is None, apart(one, other) == apart(one, other)], [False, True])
        self.assertEqual([one, other], [Layer([(A, CLEARED)]), Layer([(AA, GONE)])])


if __name__ == "__main__":
    unittest.main()
