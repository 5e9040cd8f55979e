"""[41], [42] and [9]: the least layers between two trees."""

import unittest

from recipelayers.layers import Layer
from recipelayers.least import is_table, layer, table, weight
from recipelayers.trees import Tree
from samples import (A, AA, AB, B, FILE, FIVE, LINK, NODES, OTHER_FILE, SEVEN, Checks, Odd, any_values,
                     check_example, small_layers, small_trees)

EXAMPLE = """
>>> from recipelayers.least import layer, table, weight
>>> from recipelayers.trees import Tree
>>> lower = Tree([(('a',), ('folder', 5)), (('a', 'b'), ('file', 'x', 4)), (('a', 'c'), ('file', 'y', 4))])
>>> upper = Tree([(('a',), ('folder', 5)), (('a', 'c'), ('file', 'y', 4)), (('d',), ('link', 'z'))])
>>> [weight(lower, upper), layer(lower, upper).rows()]
[3, [(('a', 'b'), ('gone',)), (('d',), ('link', 'z'))]]
>>> table(lower, upper)
[(('a',), 1, 2), (('a', 'b'), 1, None), (('a', 'c'), 0, 2), (('d',), None, 2)]
"""

AAA = ("a", "a", "a")
TWENTY = tuple("abcdefghijklmnopqrst")
LOWER = Tree([(A, FIVE), (AA, FILE), (AB, FILE), (B, SEVEN), (("b", "b"), LINK)])
UPPER = Tree([(A, SEVEN), (AB, FILE), (("a", "c"), OTHER_FILE), (B, SEVEN)])


def told_numbers(lower, upper, path, found):
    """Put (take, put) of a path and all beneath into found, in the words of [41]."""
    inner = [(*path, name) for name in sorted({*lower.names(path), *upper.names(path)})]
    for longer in inner:
        told_numbers(lower, upper, longer, found)
    lesser = sum(min(number for number in found[longer] if number is not None) for longer in inner)
    if path == ():
        return lesser
    old, new = lower.node(path), upper.node(path)
    both = old is not None and new is not None and old[0] == new[0] == "folder"
    take = None
    if old == new and lower.under(path) == upper.under(path):
        take = 0
    elif new is None:
        take = 1
    elif both and old == new:
        takes = [found[longer][0] for longer in inner]
        take = 1 if not upper.under(path) else None if None in takes else sum(takes)
    put = None
    if new is not None:
        full = Layer(upper.under(path)).weight()
        put = 1 + min(full, lesser) if both else full + Layer([(A, new)]).weight()
    found[path] = (take, put)
    return None


class TestLeast(Checks, unittest.TestCase):

    def check(self, lower, upper):
        """What is returned for two Trees is what [41] and [42] say."""
        found = {}
        wanted = told_numbers(lower, upper, (), found)
        rows = [(path, *found[path]) for path in sorted(found)]
        self.assertEqual([table(lower, upper), weight(lower, upper)], [rows, wanted])
        least = layer(lower, upper)
        self.assertIs(least.__class__, Layer)
        self.assertEqual([least.weight(), lower | least], [wanted, upper])
        self.assertTruth(True, is_table(lower, upper, rows))

    def test_example(self):
        check_example(self, EXAMPLE)

    def test_two_small_trees(self):
        for paths in [(A, AA, AB), (A, AA, AAA)]:
            trees = small_trees(paths, (FILE, OTHER_FILE, FIVE, SEVEN))
            for lower in trees:
                for upper in trees:
                    self.check(lower, upper)

    def test_no_lesser_layer(self):
        # Of all layers at these paths, none that makes the one of the other weighs less.
        for paths in [(A, AA, AB), (A, AA, AAA)]:
            trees, layers = small_trees(paths, NODES), small_layers(paths)
            for lower in trees[::4]:
                least = {}
                for some in layers:
                    made = repr(lower | some)
                    least[made] = min(some.weight(), least.get(made, 10 ** 9))
                for upper in trees:
                    self.assertEqual(weight(lower, upper), least[repr(upper)])

    def test_equal_and_empty_trees(self):
        self.assertEqual([layer(Tree(), Tree()), weight(Tree(), Tree()), table(Tree(), Tree())], [Layer(), 0, []])
        for tree in [LOWER, UPPER, Tree.chain(TWENTY, FILE)]:
            self.assertEqual([layer(tree, tree), weight(tree, tree)], [Layer(), 0])
            self.assertEqual([(path, take) for path, take, _ in table(tree, tree)], [(path, 0) for path in tree.paths()])
            self.check(tree, tree)
            self.check(tree, Tree())
            self.check(Tree(), tree)
            self.assertEqual(weight(Tree(), tree), Layer(tree.rows()).weight())
            self.assertEqual(weight(tree, Tree()), len(tree.names(())))

    def test_each_way(self):
        cases = [
            (LOWER, UPPER, [(A, 5), (B, 1)]),
            (Tree([(A, FIVE), (AA, FILE)]), Tree([(A, FIVE)]), [(A, 1)]),
            (Tree([(A, FIVE), (AA, FILE), (AB, LINK)]), Tree([(A, SEVEN)]), [(A, 1)]),
            (Tree([(A, FIVE), (AA, FILE), (AB, LINK)]), Tree([(A, SEVEN), (AB, LINK)]), [(A, 2)]),
            (Tree([(A, FILE)]), Tree([(A, ("file", "x", 5))]), [(A, 2)]),
            (Tree([(A, FIVE), (AA, FILE)]), Tree([(A, LINK)]), [(A, 2)]),
            (Tree([(A, LINK)]), Tree([(A, FIVE), (AA, OTHER_FILE)]), [(A, 4)]),
        ]
        for lower, upper, weights in cases:
            self.check(lower, upper)
            self.assertEqual(weight(lower, upper), sum(some for _, some in weights))

    def test_an_opaque_entry_where_it_weighs_less(self):
        lower = Tree([(A, FIVE), *[((*A, name), FILE) for name in "abcdefgh"]])
        upper = Tree([(A, SEVEN), (AB, LINK)])
        self.assertEqual(layer(lower, upper).rows(), [(A, ("opaque", 7)), (AB, LINK)])
        self.check(lower, upper)
        self.check(upper, lower)

    def test_large_trees(self):
        lower = Tree([(A, FIVE), *[((*A, "x" + name), FILE) for name in "abcdefghijklmnopqrstuvwxyz"],
                      (B, FIVE), *[((*B, "x" + name), LINK) for name in "abcdefghijklmnopqrstuvwxyz"]])
        upper = Tree([(path, ("file", "z", 4) if node == FILE and path[1] < "xf" else node)
                      for path, node in lower.rows() if path[0] == "a" or path[1:] < ("xd",)])
        self.check(lower, upper)
        self.check(upper, lower)

    def test_long_paths(self):
        chains = [Tree.chain(TWENTY, FILE), Tree.chain(TWENTY, OTHER_FILE), Tree.chain(TWENTY[:19], FIVE),
                  Tree.chain((*TWENTY[:19], "z"), FILE), Tree.chain(TWENTY[:10], LINK),
                  Tree([(TWENTY[:many], SEVEN) for many in range(1, 21)])]
        for lower in chains:
            for upper in chains:
                self.check(lower, upper)

    def test_arguments_stay(self):
        lower, upper = Tree(LOWER.rows()), Tree(UPPER.rows())
        layer(lower, upper), weight(lower, upper)
        thing = table(lower, upper)
        kept = list(thing)
        self.assertEqual([is_table(lower, upper, thing), thing, lower, upper], [True, kept, LOWER, UPPER])
        thing.clear()
        self.assertEqual(table(lower, upper), kept)
        self.assertIs(table(lower, upper).__class__, list)


class TestIsTable(Checks, unittest.TestCase):

    def test_the_table(self):
        for lower, upper in [(LOWER, UPPER), (UPPER, LOWER), (Tree(), Tree()), (LOWER, LOWER), (LOWER, Tree())]:
            self.assertTruth(True, is_table(lower, upper, table(lower, upper)))
        self.assertTruth(False, is_table(LOWER, UPPER, table(UPPER, LOWER)))

    def test_any_value(self):
        for thing in [*any_values(), ()]:
            with self.subTest(thing=thing):
                self.assertTruth(False, is_table(LOWER, UPPER, thing))
                self.assertTruth(False, is_table(Tree(), Tree(), thing))
                self.assertTruth(False, is_table(Tree(), Tree(), [thing]))
        self.assertTruth(False, is_table(LOWER, UPPER, []))

    def test_any_value_at_any_place(self):
        good = table(LOWER, UPPER)
        for at, row in enumerate(good):
            for thing in [*any_values(), [], ()]:
                self.assertTruth(False, is_table(LOWER, UPPER, [*good[:at], thing, *good[at + 1:]]))
                for place in range(3):
                    same = repr(thing) == repr(row[place])
                    other = (*row[:place], thing, *row[place + 1:])
                    self.assertTruth(same, is_table(LOWER, UPPER, [*good[:at], other, *good[at + 1:]]))

    def test_truths_for_numbers(self):
        good = table(LOWER, UPPER)
        self.assertIn(0, [number for row in good for number in row[1:]])
        self.assertIn(1, [number for row in good for number in row[1:]])
        for at, row in enumerate(good):
            for place in (1, 2):
                if row[place] in (0, 1):
                    other = (*row[:place], bool(row[place]), *row[place + 1:])
                    self.assertTruth(False, is_table(LOWER, UPPER, [*good[:at], other, *good[at + 1:]]))

    def test_other_kinds_and_forms(self):
        good = table(LOWER, UPPER)
        wrong = [tuple(good), good[::-1], good[1:], good[:-1], [*good, good[0]], [*good, good[-1]], [good],
                 [list(row) for row in good], [(list(path), *rest) for path, *rest in good],
                 [("".join(path), *rest) for path, *rest in good], [row[:2] for row in good],
                 [(*row, None) for row in good], [(path, put, take) for path, take, put in good],
                 [(path, str(take), put) for path, take, put in good], {row[0]: row[1:] for row in good},
                 [(path, (take, put)) for path, take, put in good], iter(good), [Odd() for _ in good], Odd(),
                 [(Odd(), Odd(), Odd()) for _ in good], [(path, Odd(), Odd()) for path, _, _ in good]]
        for thing in wrong:
            with self.subTest(thing=thing):
                self.assertTruth(False, is_table(LOWER, UPPER, thing))

    def test_other_numbers(self):
        good = table(LOWER, UPPER)
        for at, (path, take, put) in enumerate(good):
            for other in [(path, take, 10 ** 39), (path, -1, put), (path, take, None if put else 1),
                          (path, 9 if take is None else None, put), ((*path, "z"), take, put), ((), take, put)]:
                self.assertTruth(False, is_table(LOWER, UPPER, [*good[:at], other, *good[at + 1:]]))


if __name__ == "__main__":
    unittest.main()
