"""[22]: trees, and what [3] and [4] say of them."""

import unittest
from itertools import permutations

from recipelayers.errors import NoFolder, Wrong
from recipelayers.layers import Layer
from recipelayers.trees import Tree
from samples import (A, AA, AB, B, FILE, FIVE, GONE, LINK, NODES, SEVEN, Checks, Odd, any_values, check_example,
                     small_trees, wrong_rows)

EXAMPLE = """
>>> from recipelayers.trees import Tree
>>> tree = Tree([(("a",), ("folder", 5)), (("a", "b"), ("file", "one", 4)), (("c",), ("link", "a"))])
>>> [tree.node(("a", "b")), tree.names(()), tree.under(("a",)), ("c",) in tree, len(tree)]
[('file', 'one', 4), ['a', 'c'], [(('b',), ('file', 'one', 4))], True, 3]
>>> tree.apart(Tree.chain(("a", "d"), ("file", "one", 4)))
[('a', 'b'), ('a', 'd'), ('c',)]
>>> Tree([(("a", "b"), ("folder", 5))])
raises NoFolder(('a', 'b'))
"""

ROWS = [(A, FIVE), (AA, SEVEN), (("a", "a", "c"), FILE), (("ab",), LINK), (B, FILE), (("c",), FIVE)]


class TestTree(Checks, unittest.TestCase):

    def test_example(self):
        check_example(self, EXAMPLE)

    def test_rows_in_any_order_as_list_or_tuple(self):
        for rows in permutations(ROWS):
            self.assertEqual(Tree(rows).rows(), ROWS)
        self.assertEqual(Tree(list(reversed(ROWS))).rows(), ROWS)
        self.assertEqual(Tree(list(reversed(ROWS))).paths(), [path for path, _ in ROWS])

    def test_no_rows(self):
        for tree in [Tree(), Tree([]), Tree(())]:
            self.assertEqual([tree.rows(), tree.paths(), tree.names(()), tree.under(()), len(tree), repr(tree)],
                             [[], [], [], [], 0, "Tree([])"])
            self.assertEqual(tree, Tree())

    def test_node(self):
        tree = Tree(ROWS)
        for path, node in ROWS:
            self.assertEqual(tree.node(path), node)
            self.assertTruth(True, path in tree)
        for path in [(), ("d",), AB, ("a", "a", "c", "d"), ("ab", "a"), ("c", "c"), ("z",) * 20]:
            self.assertIsNone(tree.node(path))
            self.assertTruth(False, path in tree)

    def test_names(self):
        tree = Tree([*ROWS, (AB, LINK), (("a", "ab"), LINK)])
        self.assertEqual(tree.names(()), ["a", "ab", "b", "c"])
        self.assertEqual(tree.names(A), ["a", "ab", "b"])
        self.assertEqual(tree.names(AA), ["c"])
        for path in [B, ("c",), ("ab",), ("d",), AB, ("a", "a", "c")]:
            self.assertEqual(tree.names(path), [])

    def test_under(self):
        tree = Tree(ROWS)
        self.assertEqual(tree.under(()), ROWS)
        self.assertEqual(tree.under(A), [(("a",), SEVEN), (("a", "c"), FILE)])
        self.assertEqual(tree.under(AA), [(("c",), FILE)])
        for path in [B, ("c",), ("d",), ("a", "a", "c"), ("a", "b")]:
            self.assertEqual(tree.under(path), [])

    def test_apart(self):
        tree = Tree(ROWS)
        self.assertEqual(tree.apart(Tree(ROWS)), [])
        self.assertEqual(tree.apart(Tree()), tree.paths())
        self.assertEqual(Tree().apart(tree), tree.paths())
        other = Tree([(A, SEVEN), (AB, FILE), (B, ("file", "x", 5)), (("c",), FIVE)])
        parted = [A, AA, ("a", "a", "c"), AB, ("ab",), B]
        self.assertEqual([tree.apart(other), other.apart(tree)], [parted, parted])

    def test_chain(self):
        self.assertEqual(Tree.chain(A, FILE).rows(), [(A, FILE)])
        self.assertEqual(Tree.chain(A, SEVEN).rows(), [(A, SEVEN)])
        self.assertEqual(Tree.chain(("c", "b", "a"), LINK).rows(),
                         [(("c",), FIVE), (("c", "b"), FIVE), (("c", "b", "a"), LINK)])
        self.assertEqual(len(Tree.chain(("a",) * 20, FILE)), 20)
        self.assertIs(Tree.chain(A, FILE).__class__, Tree)

    def test_equal_if_the_rows_are(self):
        trees = small_trees((A, AA, B), NODES)
        for at, one in enumerate(trees):
            for other_at, other in enumerate(trees):
                self.assertTruth(at == other_at, one == other)
                self.assertTruth(at != other_at, one != other)
            self.assertTruth(True, one == Tree(list(reversed(one.rows()))))

    def test_equal_to_nothing_else(self):
        for tree in [Tree(), Tree([(A, FIVE)])]:
            for thing in [None, [], (), {}, tree.rows(), repr(tree), dict(tree.rows()), Layer(tree.rows()), 0, True]:
                self.assertTruth(False, tree == thing)
                self.assertTruth(True, tree != thing)

    def test_length_and_repr(self):
        self.assertEqual(len(Tree(ROWS)), 6)
        self.assertEqual(repr(Tree(list(reversed(ROWS)))), "Tree(" + repr(ROWS) + ")")
        self.assertEqual(str(Tree([(A, ("link", "it's"))])), "Tree([(('a',), ('link', \"it's\"))])")

    def test_large_and_long(self):
        path = ("abcdefgh",) * 20
        rows = [(path[:many], FIVE) for many in range(1, 21)]
        rows += [((*path[:19], "x" + chr(97 + k // 26) + chr(97 + k % 26)), FILE) for k in range(200)]
        tree = Tree(rows)
        self.assertEqual([len(tree), tree.node(path), len(tree.names(path[:19]))], [220, FIVE, 201])


class TestTreeErrors(Checks, unittest.TestCase):

    def test_wrong_rows(self):
        for rows in wrong_rows(FILE):
            with self.subTest(rows=rows):
                self.assertFails(Wrong, "place", 0, Tree, rows)

    def test_any_value_as_rows(self):
        for rows in any_values():
            with self.subTest(rows=rows):
                self.assertFails(Wrong, "place", 0, Tree, rows)

    def test_any_value_as_node(self):
        for node in [*any_values(), ("folder", None), ("opaque", 5), ("gone",), ("cleared",)]:
            with self.subTest(node=node):
                self.assertFails(Wrong, "place", 0, Tree, [(A, node)])
                self.assertFails(Wrong, "place", 0, Tree, ((B, FILE), (A, node)))

    def test_wrong_ahead_of_no_folder(self):
        self.assertFails(Wrong, "place", 0, Tree, [(AA, FILE), (B, None)])
        self.assertFails(Wrong, "place", 0, Tree, [(AA, FILE), (AA, FILE)])
        self.assertFails(Wrong, "place", 0, Tree, [(AA, FILE), ((), FIVE)])
        self.assertFails(Wrong, "place", 0, Tree, [(AA, FILE), 5])

    def test_no_folder(self):
        for parent in [None, FILE, LINK]:
            rows = [(A, parent)] if parent else []
            for node in NODES:
                self.assertFails(NoFolder, "path", AA, Tree, [*rows, (AA, node)])
                self.assertFails(NoFolder, "path", AA, Tree, ((AA, node), *rows))

    def test_no_folder_tells_the_least_path(self):
        bad = [(("b", "a"), FILE), (("a", "b", "c"), FIVE), (("a", "b", "d"), FIVE), (("c", "a"), LINK)]
        for rows in permutations([*bad, (A, FIVE)]):
            self.assertFails(NoFolder, "path", ("a", "b", "c"), Tree, rows)
        self.assertFails(NoFolder, "path", AA, Tree, [(("a", "a", "a"), FILE), (AA, FIVE), (B, FIVE)])
        self.assertFails(NoFolder, "path", ("a", "a", "a"), Tree, [(("a", "a", "a"), FILE), (A, FIVE)])

    def test_a_long_path(self):
        self.assertFails(NoFolder, "path", ("a",) * 19000, Tree, [(("a",) * 19000, FILE)])


class TestTreeStays(unittest.TestCase):

    def test_arguments_stay(self):
        rows = list(reversed(ROWS))
        Tree(rows)
        self.assertEqual(rows, list(reversed(ROWS)))
        bad = [(AB, FILE), (A, FILE), (B, Odd())]
        before = list(bad)
        with self.assertRaises(Wrong):
            Tree(bad)
        self.assertTrue(all(one is other for one, other in zip(bad, before)) and len(bad) == 3)

    def test_a_passed_list_is_copied(self):
        rows = list(ROWS)
        tree = Tree(rows)
        rows.clear()
        self.assertEqual(tree.rows(), ROWS)

    def test_a_returned_list_is_new(self):
        tree = Tree(ROWS)
        calls = [tree.rows, tree.paths, lambda: tree.names(()), lambda: tree.under(()), lambda: tree.apart(Tree()),
                 lambda: tree.names(AB), lambda: tree.under(AB), lambda: tree.apart(tree)]
        for call in calls:
            first = call()
            kept = list(first)
            self.assertIs(first.__class__, list)
            first.append(5)
            first.reverse()
            self.assertEqual(call(), kept)
        self.assertEqual(tree, Tree(ROWS))

    def test_queries_and_layers_change_nothing(self):
        tree, layer = Tree(ROWS), Layer([(A, GONE)])
        made = tree | layer
        self.assertEqual([tree, layer, made], [Tree(ROWS), Layer([(A, GONE)]), Tree(ROWS[3:])])


if __name__ == "__main__":
    unittest.main()
