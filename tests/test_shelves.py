"""[93], [94] and [16]: the trees that told bases and layers can show."""

import random
import unittest
from itertools import permutations

from recipelayers.layers import Layer
from recipelayers.least import weight
from recipelayers.shelves import is_closed, nearest, reached
from recipelayers.stacks import Stack
from recipelayers.trees import Tree
from samples import (A, AA, B, CLEARED, FILE, FIVE, GONE, KEPT, LINK, SEVEN, Checks, Odd, any_values, check_example, deep,
                     small_layers, small_trees)
from test_stores import EXAMPLE as STORE_EXAMPLE

EXAMPLE = STORE_EXAMPLE + """
>>> from recipelayers.shelves import nearest, reached
>>> bases, goal = [Tree([(("x",), ("file", "1", 6))])], Tree([(("y",), ("link", "x")), (("z",), ("link", ""))])
>>> reached(bases, [take, tie])
[(0, ()), (0, (0,)), (0, (1,)), (0, (0, 1))]
>>> [nearest(bases, [take, tie], goal), nearest(bases, [], goal)]
[(2, (0, (0, 1))), (5, (0, ()))]
"""

PUT, TAKE, TIE, CLEAR = Layer([(A, FILE)]), Layer([(A, GONE)]), Layer([(B, LINK)]), Layer([(A, CLEARED)])
DEEP, NONE = Layer([(A, KEPT), (AA, LINK)]), Layer()
BARE, FILED, FULL = Tree(), Tree([(A, FILE)]), Tree([(A, SEVEN), (AA, FILE), (B, FILE)])


def model_ways(bases, layers):
    """All ways in the order of [93], with their trees."""
    ways = [(base, order) for base in range(len(bases)) for many in range(len(layers) + 1)
            for order in permutations(range(len(layers)), many)]
    ways = sorted(ways, key=lambda way: (len(way[1]), way[0], way[1]))
    return [(way, Stack(bases[way[0]], [layers[at] for at in way[1]]).tree()) for way in ways]


def model_reached(bases, layers):
    found = []
    for way, tree in model_ways(bases, layers):
        if all(tree != other for _, other in found):
            found.append((way, tree))
    return found


def is_model_closed(bases, layers, ways):
    """Whether a list of ways is closed: each tree that is reached stands once, with as few layers as may be, in order."""
    trees = dict(model_ways(bases, layers))
    if sorted(ways, key=lambda way: (len(way[1]), way[0], way[1])) != ways:
        return False
    shown = [(repr(trees[way]), len(way[1])) for way in ways]
    return sorted(shown) == sorted((repr(tree), len(way[1])) for way, tree in model_reached(bases, layers))


def worlds():
    """Tuples (bases, layers): one to three bases, no layer to four, equal ones and such as do nothing among them."""
    told = [([BARE], []), ([BARE, FILED], []), ([FULL] * 3, []), ([FILED], [TAKE, TIE]), ([FILED], [PUT, PUT, PUT]),
            ([BARE], [NONE, CLEAR]), ([BARE, FILED], [PUT, TAKE]), ([FULL, FULL], [CLEAR, DEEP, TAKE]),
            ([FULL, BARE, FILED], [PUT, TAKE, TIE, DEEP]), ([BARE, FILED | TIE, FILED], [TIE, PUT, NONE, TAKE]),
            ([FULL], [DEEP, CLEAR, Layer([(A, ("opaque", None))]), Layer([(B, GONE)])])]
    chance = random.Random(93)
    trees, layers = small_trees((A, AA, B), (FILE, FIVE, SEVEN)), small_layers() + [TIE, Layer([(B, GONE)]), Layer([(B, FIVE)])]
    for _ in range(60):
        some = [chance.choice(layers) for _ in range(chance.randint(0, 4))]
        told.append(([chance.choice(trees) for _ in range(chance.randint(1, 3))], some))
    return told


class TestReached(Checks, unittest.TestCase):

    def test_example(self):
        check_example(self, EXAMPLE)

    def test_the_first_way_to_each_tree(self):
        for bases, layers in worlds():
            self.assertEqual(reached(bases, layers), [way for way, _ in model_reached(bases, layers)])

    def test_no_layers(self):
        for bases, ways in [([BARE], [(0, ())]), ([BARE, FILED], [(0, ()), (1, ())]), ([FILED, FILED], [(0, ())]),
                            ([FILED, BARE, FILED], [(0, ()), (1, ())]), ([BARE, FILED, FULL], [(0, ()), (1, ()), (2, ())])]:
            self.assertEqual(reached(bases, []), ways)

    def test_layers_that_do_nothing(self):
        self.assertEqual(reached([BARE], [NONE, TAKE, CLEAR, NONE]), [(0, ())])
        self.assertEqual(reached([BARE, FULL], [NONE, PUT, PUT]), [(0, ()), (1, ()), (0, (1,)), (1, (1,))])

    def test_the_order_of_ways(self):
        # Fewer layers ahead of a lesser base, this ahead of a lesser order.
        ways = reached([BARE, FILED], [Layer([(B, LINK)]), Layer([(("c",), LINK)])])
        self.assertEqual(ways, [(0, ()), (1, ()), (0, (0,)), (0, (1,)), (1, (0,)), (1, (1,)), (0, (0, 1)), (1, (0, 1))])
        # With a base that another way has, too, and a tree that the later base has sooner.
        self.assertEqual(reached([BARE, FILED], [PUT]), [(0, ()), (1, ())])
        self.assertEqual(reached([FILED, BARE], [TAKE, PUT]), [(0, ()), (1, ())])

    def test_all_ways_to_different_trees(self):
        layers = [Layer([(A, ("link", text))] + [((text,), LINK)]) for text in "wxyz"]
        ways = reached([BARE, FILED, FULL], layers)
        # What stands at a is told by the last layer alone, and which others there are by the rest.
        self.assertEqual(len(ways), 3 + 2 * (4 + 12 + 12 + 4))
        self.assertEqual(ways, [way for way, _ in model_reached([BARE, FILED, FULL], layers)])

    def test_arguments_stay_and_results_are_new(self):
        bases, layers = [BARE, FILED], [PUT, TIE]
        found = reached(bases, layers)
        kept = list(found)
        found.append(5)
        self.assertEqual([reached(bases, layers), bases, layers], [kept, [BARE, FILED], [PUT, TIE]])


class TestNearest(unittest.TestCase):

    def test_all_ways(self):
        goals = [BARE, FILED, FULL, FULL | TIE, Tree([(A, SEVEN), (AA, LINK)]), Tree([(B, LINK)]), Tree([(("z",), FIVE)])]
        for at, (bases, layers) in enumerate(worlds()):
            for goal in goals[at % 3:]:
                ways = model_ways(bases, layers)
                least = min(weight(tree, goal) for _, tree in ways)
                first = next(way for way, tree in ways if weight(tree, goal) == least)
                self.assertEqual(nearest(bases, layers, goal), (least, first))

    def test_a_goal_that_is_reached(self):
        self.assertEqual(nearest([BARE, FILED], [TIE, TAKE], FILED), (0, (1, ())))
        self.assertEqual(nearest([FULL, FILED], [TIE, TAKE], Tree([(B, LINK)])), (0, (0, (0, 1))))
        self.assertEqual(nearest([FILED, FULL, FILED], [], FILED), (0, (0, ())))

    def test_of_several_the_first_way(self):
        # Both bases are as far, and each layer is of no use.
        self.assertEqual(nearest([FILED, FULL], [PUT, NONE], FILED | TIE), (2, (0, ())))
        self.assertEqual(nearest([FULL, FILED], [CLEAR, NONE], Tree([(("z",), LINK)]))[1], (1, ()))

    def test_arguments_stay(self):
        bases, layers = [BARE, FILED], [PUT, TIE]
        nearest(bases, layers, FULL)
        self.assertEqual([bases, layers], [[BARE, FILED], [PUT, TIE]])


class TestIsClosed(Checks, unittest.TestCase):

    def check(self, bases, layers, ways):
        """A list of ways is closed just if it is so in the words of the model."""
        wanted = is_model_closed(bases, layers, ways)
        self.assertTruth(wanted, is_closed(bases, layers, ways))
        return wanted

    def test_what_reached_returns(self):
        for bases, layers in worlds():
            self.assertTruth(True, is_closed(bases, layers, reached(bases, layers)))
            self.assertTruth(True, is_model_closed(bases, layers, reached(bases, layers)))

    def test_other_right_lists(self):
        bases, layers = [FILED, FILED], [TIE, Layer([(("z",), LINK)]), TIE]
        right = [(1, ()), (0, (0,)), (1, (1,)), (1, (2, 1))]
        self.assertNotEqual(reached(bases, layers), right)
        self.assertTrue(self.check(bases, layers, right))
        for ways, wanted in [([(0, ()), (1, (1,)), (1, (2,)), (0, (1, 0))], True), ([(0, ()), (1, (2,)), (1, (1,)), (0, (1, 0))], False),
                             ([(0, ()), (0, (1,)), (0, (2,)), (0, (0, 1, 2))], False), ([(0, ()), (1, ()), *right[1:]], False)]:
            self.assertEqual(self.check(bases, layers, ways), wanted)

    def test_any_ways_to_the_same_trees(self):
        chance = random.Random(94)
        found = []
        for bases, layers in worlds():
            if len(layers) > 3 and len(bases) > 1:
                continue
            by_tree = {}
            for way, tree in model_ways(bases, layers):
                by_tree.setdefault(repr(tree), []).append(way)
            for _ in range(6):
                ways = [chance.choice(some[:2 + chance.randint(0, 4)]) for some in by_tree.values()]
                ways = sorted(ways, key=lambda way: (len(way[1]), way[0], way[1]))
                found.append(self.check(bases, layers, ways))
        self.assertGreater(min(found.count(True), found.count(False)), 60)

    def test_lists_that_are_a_little_wrong(self):
        for bases, layers in worlds():
            right = reached(bases, layers)
            for at, way in enumerate(right[:12]):
                self.check_not(bases, layers, right[:at] + right[at + 1:])
                self.check_not(bases, layers, right[:at + 1] + right[at:])
                self.check_not(bases, layers, [*right, way])
                if at > 0:
                    self.check_not(bases, layers, [*right[:at - 1], way, right[at - 1], *right[at + 1:]])
                base, order = way
                others = [(base + 1, order), (base - 1, order), (base, order[1:]), (base, order[::-1])]
                others += [(base, (*order, more)) for more in range(-1, len(layers) + 1)]
                for other in others:
                    ways = [*right[:at], other, *right[at + 1:]]
                    indexes = other[1]
                    if other[0] in range(len(bases)) and len(set(indexes)) == len(indexes) and set(indexes) <= set(range(len(layers))):
                        self.check(bases, layers, ways)
                    else:
                        self.check_not(bases, layers, ways)

    def check_not(self, bases, layers, thing):
        with self.subTest(bases=bases, layers=layers, thing=thing):
            self.assertTruth(False, is_closed(bases, layers, thing))

    def test_more_layers_than_needed(self):
        # The tree of the base FILED is that of a way with one layer, too; it must stand there without.
        bases, layers = [BARE, FILED], [PUT]
        self.assertTruth(True, is_closed(bases, layers, [(0, ()), (1, ())]))
        self.check_not(bases, layers, [(0, ()), (0, (0,))])
        # The tree of two layers is that of another one alone.
        both = PUT | TIE
        self.assertTruth(True, is_closed([BARE], [PUT, TIE, both], [(0, ()), (0, (0,)), (0, (1,)), (0, (2,))]))
        self.check_not([BARE], [PUT, TIE, both], [(0, ()), (0, (0,)), (0, (1,)), (0, (0, 1))])

    def test_a_layer_that_is_used_twice(self):
        self.check_not([FULL], [PUT, TAKE], [(0, ()), (0, (0,)), (0, (1,)), (0, (0, 0))])
        self.assertEqual(reached([FULL], [PUT, TAKE]), [(0, ()), (0, (0,)), (0, (1,))])

    def test_other_kinds(self):
        bases, layers = [FILED, BARE], [TAKE, TIE]
        right = reached(bases, layers)
        self.assertEqual(right, [(0, ()), (1, ()), (0, (1,)), (1, (1,))])
        for at, (base, order) in enumerate(right):
            for way in [[base, order], (base,), (base, order, None), (base, list(order)), (None, order), (base, None), (f"{base}", order),
                        (bool(base), order), (base, tuple(bool(some) for some in order) or (True,)), (base, "".join(map(str, order))),
                        (base, (Odd(),)), (Odd(), order), Odd(), base, order, (order, base), (base, dict.fromkeys(order)), None,
                        deep(list), deep(tuple), (base, deep(tuple)), (base, (0,) * 15000), (base, tuple(range(15000))), (10 ** 39, order)]:
                self.check_not(bases, layers, [*right[:at], way, *right[at + 1:]])
                self.check_not(bases, layers, [*right, way])
        for thing in [tuple(right), dict(right), iter(right), repr(right), [right], right[::-1], right * 2000, *any_values(), []]:
            self.check_not(bases, layers, thing)
        self.check_not([BARE], [], [])
        self.check_not([BARE], [], [(False, ())])
        self.check_not([FILED], [TAKE], [(0, ()), (0, (False,))])
        self.assertTruth(True, is_closed([FILED], [TAKE], [(0, ()), (0, (0,))]))

    def test_the_values_stay(self):
        bases, layers, ways = [FILED], [TAKE, TIE], [(0, ()), (0, (0,)), (0, (1,)), (0, (0, 1))]
        self.assertTruth(True, is_closed(bases, layers, ways))
        self.assertEqual([bases, layers, ways], [[FILED], [TAKE, TIE], [(0, ()), (0, (0,)), (0, (1,)), (0, (0, 1))]])


if __name__ == "__main__":
    unittest.main()
