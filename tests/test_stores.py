"""[90] to [92] and [16]: stores of layers, and what cuts of stacks cost."""

import unittest
from itertools import combinations, product

from recipelayers.errors import TooMany, Wrong
from recipelayers.layers import Layer, joined
from recipelayers.stacks import Stack
from recipelayers.stores import Store, cheapest, cost, is_prices, prices
from recipelayers.trees import Tree
from samples import (A, AA, AB, B, CLEARED, FILE, FIVE, GONE, KEPT, LINK, Checks, Odd, any_values, check_example, deep,
                     small_layers)

EXAMPLE = """
>>> from recipelayers.layers import Layer
>>> from recipelayers.stacks import Stack
>>> from recipelayers.stores import Store, cheapest, prices
>>> from recipelayers.trees import Tree
>>> put, take = Layer([(("x",), ("file", "1", 6))]), Layer([(("x",), ("gone",))])
>>> tie = Layer([(("y",), ("link", "x"))])
>>> stack = Stack(Tree(), [put, take, tie])
>>> [cheapest(stack, Store()), cheapest(stack, Store([put, tie])), prices(stack, Store([put, tie]), most=2)]
[(4, [0, 3]), (2, [0, 2, 3]), [[0, None, None], [None, 0, None], [None, 2, 2], [None, 4, 2]]]
"""

NAMES = [(one + other,) for one in "abcdefgh" for other in "abcdefghij"]
SOME = [Layer([(name, ("link", "x"))]) for name in NAMES]
PUT, TAKE, TIE, CLEAR = Layer([(A, FILE)]), Layer([(A, GONE)]), Layer([(B, LINK)]), Layer([(A, CLEARED)])


def all_cuts(many):
    """All cuts of a stack of many layers, from the words of [91]."""
    if many == 0:
        return [[0]]
    return [[0, *[at for at, taken in enumerate(row, 1) if taken], many] for row in product([False, True], repeat=many - 1)]


def model_cost(stack, store, begin, end, price):
    """What a group costs, in the words of [91]."""
    layer = stack.squashed(begin, end)
    return 0 if layer == Layer() or layer in store.layers() else layer.weight() + price


def model_cut_cost(stack, store, cut, price):
    return sum(model_cost(stack, store, begin, end, price) for begin, end in zip(cut, cut[1:]))


def worlds():
    """Tuples (stack, store), among them with groups that squash to nothing and such as the store has."""
    layers = [PUT, TAKE, TIE, CLEAR, Layer(), Layer([(A, KEPT), (AA, LINK)]), Layer([(A, ("opaque", 5))])]
    found = []
    for many in range(4):
        found += [list(row) for row in product(layers[:5] if many == 3 else layers, repeat=many)]
    for at in range(30):
        found.append([layers[(at * step + step) % 7] for step in range(1, 5 + at % 4)])
    found += [SOME[:8], [PUT, TAKE] * 4, [Layer()] * 8, [PUT] * 8, [TIE, PUT, TAKE, TIE, CLEAR, PUT, PUT, TAKE]]
    stores = [Store(), Store([PUT, TIE]), Store([TAKE | TIE, TAKE, PUT | TIE]), Store([Layer(), CLEAR, TAKE | TIE | CLEAR])]
    return [(Stack(Tree(), row), stores[at % 4]) for at, row in enumerate(found)] + [
        (Stack(Tree(), row), store) for row in found[-6:] for store in stores]


class TestStore(Checks, unittest.TestCase):

    def test_different_layers(self):
        store = Store([PUT, TIE, PUT, Layer(), TIE, TAKE])
        self.assertEqual([len(store), store.layers()], [4, [PUT, TIE, Layer(), TAKE]])
        # Equal layers may have been made in other ways.
        one, other = Layer([(A, ("opaque", 5)), (AA, ("folder", None))]), Layer([(AA, FIVE), (A, ("opaque", 5)), (AB, GONE)])
        self.assertEqual([len(Store([one, other])), len(Store((one, PUT, other)))], [1, 2])
        self.assertEqual([len(Store()), Store().layers(), Store([]).layers(), Store(()).layers()], [0, [], [], []])

    def test_sixty_layers(self):
        self.assertEqual(len(Store(SOME[:60])), 60)
        self.assertEqual(len(Store([SOME[0]] * 60)), 1)
        self.assertEqual(len(Store(tuple(SOME[:30] * 2))), 30)
        # Equal ones are counted.
        for layers in [SOME[:61], [SOME[0]] * 61, SOME[:60] + [SOME[0]], tuple(SOME[:31] * 2)]:
            self.assertFails(Wrong, "place", 0, Store, layers)

    def test_wrong_layers(self):
        for thing in any_values():
            if thing.__class__ not in (list, tuple) or len(thing) > 0:
                with self.subTest(thing=thing):
                    self.assertFails(Wrong, "place", 0, Store, thing)
            if thing.__class__ is not Layer:
                self.assertFails(Wrong, "place", 0, Store, [thing])
                self.assertFails(Wrong, "place", 0, Store, (PUT, thing, TIE))
        for thing in [PUT, {PUT.__class__: 1}, {"a": PUT}, [PUT, [TIE]], [[PUT, TIE]], [PUT.rows()], iter([PUT]), Store([PUT]),
                      Stack(Tree(), [PUT]), [Store()], [None], deep(list), deep(tuple), [Tree()] * 100, [PUT] * 61 + [5], Odd()]:
            self.assertFails(Wrong, "place", 0, Store, thing)

    def test_in(self):
        store = Store([PUT, TAKE, Layer([(A, ("opaque", 5)), (AA, FIVE)])])
        for layer in [PUT, Layer([(A, FILE)]), TAKE, Layer([(A, ("opaque", 5)), (AA, KEPT), (AB, GONE)])]:
            self.assertTruth(True, layer in store)
        near = [TIE, Layer(), CLEAR, Layer([(A, ("file", "x", 5))]), Layer([(B, FILE)]), Layer([(A, ("opaque", 6)), (AA, FIVE)]),
                Layer([(A, ("opaque", 5))]), Layer([(A, KEPT), (AA, FIVE)])]
        for thing in [*near, *any_values(), PUT.rows(), [PUT], (PUT,), Tree([(A, FILE)]), Store([PUT]), Store(), repr(PUT)]:
            with self.subTest(thing=thing):
                self.assertTruth(False, thing in store)
        for thing in [Layer(), Odd(), None]:
            self.assertTruth(False, thing in Store())
        self.assertTruth(True, Layer() in Store([Layer()]))

    def test_all_small_layers(self):
        layers = small_layers()
        store = Store(layers[:60])
        self.assertEqual([layer in store for layer in layers], [at < 60 for at in range(len(layers))])

    def test_more(self):
        store = Store([PUT, TIE])
        more = store.more([TAKE, PUT, Layer(), TAKE])
        self.assertEqual([more.layers(), store.layers()], [[PUT, TIE, TAKE, Layer()], [PUT, TIE]])
        self.assertEqual([store.more([]).layers(), Store().more([TIE, PUT, TIE]).layers()], [[PUT, TIE], [TIE, PUT]])
        full = Store(SOME[:58]).more(SOME[50:60])
        self.assertEqual([len(full), full.layers()], [60, SOME[:60]])
        # Equal ones are not counted here, however many they are.
        self.assertEqual(len(full.more(SOME[:60] * 5)), 60)
        self.assertEqual(len(Store([PUT]).more([PUT] * 5000)), 1)
        self.assertEqual(Store().more(SOME[:60] * 100).layers(), SOME[:60])
        for layers in [SOME[60:61], SOME[:61], SOME[:60] * 5 + [PUT], [PUT, TIE], SOME * 100]:
            self.assertFails(TooMany, "limit", 60, full.more, layers)
            self.assertEqual(full.layers(), SOME[:60])
        self.assertFails(TooMany, "limit", 60, Store().more, SOME[:61])
        self.assertEqual(len(Store().more(SOME[:60])), 60)

    def test_equal_stores(self):
        layers = [PUT, TIE, TAKE]
        for order in [[0, 1, 2], [2, 1, 0], [1, 0, 2, 2, 1], [0, 0, 0, 1, 2]]:
            self.assertTruth(True, Store([layers[at] for at in order]) == Store(layers))
            self.assertTruth(False, Store([layers[at] for at in order]) != Store(layers))
        self.assertTrue(Store([PUT]).more([TIE]) == Store([TIE, PUT]))
        self.assertTrue(Store() == Store([]))
        for other in [Store(), Store([PUT]), Store([PUT, TIE]), Store([PUT, TIE, CLEAR]), Store([PUT, TIE, TAKE, CLEAR]),
                      Store([Layer(), PUT, TIE])]:
            self.assertTruth(False, Store(layers) == other)
            self.assertTruth(False, other == Store(layers))
        for thing in [layers, tuple(layers), None, 3, "Store", PUT, Tree(), Stack(Tree(), layers)]:
            self.assertTruth(False, Store(layers) == thing)
        self.assertFalse(Store() == [])

    def test_passed_and_returned_lists(self):
        layers = [PUT, TIE]
        store = Store(layers)
        layers.append(TAKE)
        more = [CLEAR]
        other = store.more(more)
        more.append(TAKE)
        store.layers().clear()
        other.layers().append(TAKE)
        self.assertEqual([store.layers(), other.layers(), layers, more],
                         [[PUT, TIE], [PUT, TIE, CLEAR], [PUT, TIE, TAKE], [CLEAR, TAKE]])


class TestCosts(Checks, unittest.TestCase):

    def test_example(self):
        check_example(self, EXAMPLE)

    def test_cost(self):
        stack = Stack(Tree([(A, LINK)]), [PUT, TAKE, TIE, Layer(), CLEAR])
        bare, some = Store(), Store([TAKE, PUT | TAKE | TIE])
        for begin, end, price, free, paid in [
                (0, 1, 1, 3, 3), (0, 1, 0, 2, 2), (0, 1, 1000, 1002, 1002), (1, 2, 1, 2, 0), (0, 2, 7, 8, 0), (2, 3, 1, 3, 3),
                (0, 3, 1, 4, 0), (3, 4, 1, 0, 0), (2, 4, 1, 3, 3), (4, 5, 1, 2, 2), (3, 5, 1, 2, 2), (0, 5, 1, 4, 0), (1, 3, 0, 3, 0)]:
            self.assertEqual([cost(stack, bare, begin, end, price=price), cost(stack, some, begin, end, price=price)], [free, paid])
        self.assertEqual(cost(stack, bare, 0, 1), 3)
        # Layers are not taken from the groups, nor put into the store.
        self.assertEqual([len(bare), len(some)], [0, 2])

    def test_costs_of_all_groups(self):
        for stack, store in worlds():
            for begin, end in combinations(range(len(stack) + 1), 2):
                for price in (0, 1, 1000):
                    self.assertEqual(cost(stack, store, begin, end, price=price), model_cost(stack, store, begin, end, price))

    def test_the_groups_squash_whatever_they_are_laid_on(self):
        # [16]: put and take together are gone, though on some trees they do nothing.
        for start in [Tree(), Tree([(A, LINK)])]:
            self.assertEqual(cost(Stack(start, [PUT, TAKE]), Store(), 0, 2), 2)
        for stack, _ in worlds():
            for cut in all_cuts(len(stack))[::5]:
                groups = [stack.squashed(begin, end) for begin, end in zip(cut, cut[1:])]
                self.assertEqual(joined(groups), stack.squashed(0, len(stack)))

    def test_no_layer(self):
        for store in [Store(), Store([PUT, Layer()])]:
            for most in range(1, 9):
                stack = Stack(Tree([(A, FILE)]))
                self.assertEqual(cheapest(stack, store, most=most), (0, [0]))
                self.assertEqual(prices(stack, store, most=most), [[0] + [None] * most])
                self.assertTruth(True, is_prices(stack, store, [[0] + [None] * most], most=most))

    def test_one_layer(self):
        for layer, told in [(PUT, 3), (TAKE, 2), (Layer(), 0)]:
            stack = Stack(Tree(), [layer])
            self.assertEqual([cheapest(stack, Store()), prices(stack, Store(), most=2)],
                             [(told, [0, 1]), [[0, None, None], [None, told, None]]])
            self.assertEqual(cheapest(stack, Store([layer]), price=9), (0, [0, 1]))

    def test_cheapest_of_all_cuts(self):
        for stack, store in worlds():
            costs = {price: [(model_cut_cost(stack, store, cut, price), len(cut) - 1, cut) for cut in all_cuts(len(stack))]
                     for price in (0, 1, 1000)}
            for price, told in costs.items():
                for most in [1, 2, 3, 5, 8]:
                    least, _, cut = min(row for row in told if row[1] <= most)
                    self.assertEqual(cheapest(stack, store, price=price, most=most), (least, cut))

    def test_of_several_the_fewest_groups_then_the_least(self):
        stack = Stack(Tree(), [PUT, TIE, CLEAR])
        self.assertEqual(cheapest(stack, Store(), price=0), (4, [0, 3]))
        one, two, three = SOME[:3]
        for layers, cut in [([one, two | three, one | two, three], [0, 1, 3]), ([one | two, three], [0, 2, 3]),
                            ([one, two, three], [0, 1, 2, 3]), ([one, two, three, one | two], [0, 2, 3])]:
            self.assertEqual(cheapest(Stack(Tree(), [one, two, three]), Store(layers)), (0, cut))
        self.assertEqual(cheapest(Stack(Tree(), [Layer()] * 4), Store(), most=3), (0, [0, 4]))

    def test_the_usual_price_and_number_of_groups(self):
        stack = Stack(Tree(), SOME[:8])
        self.assertEqual(cheapest(stack, Store()), (17, [0, 8]))
        self.assertEqual(cheapest(stack, Store(SOME[:60])), (0, [0, 1, 2, 3, 4, 5, 6, 7, 8]))
        self.assertEqual(cheapest(stack, Store(SOME[:60]), most=7), (5, [0, 1, 2, 3, 4, 5, 6, 8]))
        self.assertEqual([len(row) for row in prices(stack, Store())], [9] * 9)

    def test_prices_of_all_cuts(self):
        for stack, store in worlds():
            for price, most in [(1, 8), (0, 2), (1000, 3), (1, 1)]:
                wanted = []
                for many in range(len(stack) + 1):
                    told = [(len(cut) - 1, model_cut_cost(stack, store, cut, price)) for cut in all_cuts(many)]
                    wanted.append([min([some for groups, some in told if groups == number], default=None)
                                   for number in range(most + 1)])
                found = prices(stack, store, price=price, most=most)
                self.assertEqual(found, wanted)
                self.assertTruth(True, is_prices(stack, store, found, price=price, most=most))
                row = [some for some in found[-1] if some is not None]
                self.assertEqual(cheapest(stack, store, price=price, most=most)[0], min(row))

    def test_parameters_are_passed_by_keyword(self):
        stack = Stack(Tree(), [PUT])
        for call in [lambda: cost(stack, Store(), 0, 1, 1), lambda: cheapest(stack, Store(), 1), lambda: prices(stack, Store(), 1),
                     lambda: is_prices(stack, Store(), [], 1)]:
            with self.assertRaises(TypeError):
                call()

    def test_arguments_stay_and_results_are_new(self):
        stack, store = Stack(Tree(), [PUT, TAKE, TIE]), Store([PUT])
        told, cut = cheapest(stack, store)
        cut.append(5)
        found = prices(stack, store)
        self.assertEqual(len({id(row) for row in found}), 4)
        for row in found:
            row.clear()
        found.clear()
        self.assertEqual([cheapest(stack, store), len(prices(stack, store)), prices(stack, store)[0][0]], [(told, cut[:-1]), 4, 0])
        self.assertEqual([stack, store], [Stack(Tree(), [PUT, TAKE, TIE]), Store([PUT])])


class TestIsPrices(Checks, unittest.TestCase):

    def setUp(self):
        self.stack, self.store = Stack(Tree(), [PUT, TAKE, TIE]), Store([PUT, TIE])
        self.right = prices(self.stack, self.store, most=2)

    def check(self, wanted, thing):
        self.assertTruth(wanted, is_prices(self.stack, self.store, thing, most=2))

    def test_the_right_list(self):
        self.check(True, self.right)
        self.check(True, [list(row) for row in self.right])

    def test_the_usual_price_and_number_of_groups(self):
        right = prices(self.stack, self.store)
        self.assertTruth(True, is_prices(self.stack, self.store, right))
        self.assertTruth(True, is_prices(self.stack, self.store, right, price=1, most=8))
        self.assertTruth(False, is_prices(self.stack, self.store, right, most=7))
        self.assertTruth(False, is_prices(self.stack, self.store, right, most=9))

    def test_other_prices_stores_and_numbers(self):
        for call in [lambda: is_prices(self.stack, self.store, self.right), lambda: is_prices(self.stack, self.store, self.right, most=1),
                     lambda: is_prices(self.stack, self.store, self.right, price=0, most=2),
                     lambda: is_prices(self.stack, Store(), self.right, most=2),
                     lambda: is_prices(Stack(Tree(), [PUT, TIE, TAKE]), self.store, self.right, most=2)]:
            self.assertTruth(False, call())

    def test_spoilt_in_one_place(self):
        # Truths in place of 0 and 1, too, though these are equal to them.
        for at, row in enumerate(self.right):
            for place, told in enumerate(row):
                for other in [None, 0, 1, 2, 3, -1, True, False, "0", b"0", Odd(), [], [told], (told,), deep(list), 10 ** 39, {}]:
                    if other.__class__ is told.__class__ and other == told:
                        continue
                    spoilt = [list(some) for some in self.right]
                    spoilt[at][place] = other
                    with self.subTest(at=at, place=place, other=other):
                        self.check(False, spoilt)

    def test_other_forms(self):
        for at in range(4):
            for row in [None, [], tuple(self.right[at]), self.right[at][:-1], [*self.right[at], None], self.right[at] * 2, "0NN",
                        dict(enumerate(self.right[at])), Odd(), 0, self.right, deep(list), deep(tuple), ["a"] * 5000]:
                self.check(False, [*self.right[:at], row, *self.right[at + 1:]])
            self.check(False, self.right[:at])
            self.check(False, [*self.right[:at], *self.right[at + 1:]])
            self.check(False, [*self.right[:at], self.right[at], *self.right[at:]])
        self.check(False, [*self.right, [None, None, None]])
        for thing in [tuple(self.right), [tuple(row) for row in self.right], dict(enumerate(self.right)), self.right[::-1],
                      repr(self.right), [self.right], [[0, None, None]] * 5000, *any_values()]:
            self.check(False, thing)
        one = Stack(Tree(), [Layer([(A, CLEARED)])])
        self.assertTruth(True, is_prices(one, Store(), [[0, None], [None, 1]], price=0, most=1))
        for thing in [[[False, None], [None, 1]], [[0, None], [None, True]], [[0, None], [None, 1], []]]:
            self.assertTruth(False, is_prices(one, Store(), thing, price=0, most=1))

    def test_the_value_stays(self):
        kept = [list(row) for row in self.right]
        self.check(True, self.right)
        self.assertEqual(self.right, kept)


if __name__ == "__main__":
    unittest.main()
