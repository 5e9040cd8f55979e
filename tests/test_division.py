"""[44], [7] and [9]: quotients of layers."""

import unittest

from recipelayers.division import behind, may_divide
from recipelayers.errors import NoQuotient
from recipelayers.layers import Layer
from samples import (A, AA, AB, B, CLEARED, FILE, FIVE, GONE, KEPT, LINK, OTHER_FILE, SEVEN, Checks, check_example,
                     small_layers)

EXAMPLE = """
>>> from recipelayers.division import behind, may_divide
>>> from recipelayers.exchange import orders
>>> from recipelayers.layers import Layer
>>> one, two, all_new = Layer([(("x",), ("link", "1"))]), Layer([(("x",), ("link", "2"))]), Layer([(("x",), ("gone",))])
>>> whole = one | Layer([(("y",), ("link", "1"))])
>>> [orders([one, two, all_new]), may_divide(two, whole), behind(one, whole).rows(), may_divide(whole, one)]
[[(0, 1, 2), (1, 0, 2)], True, [(('y',), ('link', '1'))], False]
"""

AAA = ("a", "a", "a")
LONG = tuple("abcdefghijklmnopqrst")


class TestDivision(Checks, unittest.TestCase):

    def check(self, lower, whole, weight):
        """The least layer that makes whole of lower has this weight; None if there is none."""
        self.assertTruth(weight is not None, may_divide(lower, whole))
        if weight is None:
            with self.assertRaises(NoQuotient):
                behind(lower, whole)
            return
        least = behind(lower, whole)
        self.assertIs(least.__class__, Layer)
        self.assertEqual([lower | least, least.weight()], [whole, weight])

    def test_example(self):
        check_example(self, EXAMPLE)

    def test_no_lesser_layer(self):
        # Of all layers at these paths, none that makes the whole of the lower one weighs less, and none
        # makes it where may_divide says so.
        for paths in [(A, AA, AB), (A, AA, AAA), (A, AA, B)]:
            layers = small_layers(paths)
            for lower in layers[::11]:
                least = {}
                for some in layers:
                    made = repr(lower | some)
                    least[made] = min(some.weight(), least.get(made, 10 ** 9))
                for whole in layers[::3]:
                    self.check(lower, whole, least.get(repr(whole)))

    def test_the_whole_itself_divides_if_any_does(self):
        # [7]: one, another one and the first one again make what the other one and then the first one make.
        layers = small_layers((A, AA))
        for lower in layers:
            for whole in layers[::3]:
                self.assertEqual(whole | lower | whole, lower | whole)
                self.assertTruth((lower | whole) == whole, may_divide(lower, whole))
                self.assertTruth(True, may_divide(lower, lower | whole))

    def test_empty_quotients(self):
        for layer in small_layers((A, AA)):
            self.assertEqual(behind(layer, layer), Layer())
            self.assertEqual(behind(Layer(), layer).weight(), layer.weight())
        self.assertEqual(behind(Layer(), Layer()), Layer())

    def test_none(self):
        for lower, whole in [([(A, FILE)], []), ([(A, FILE)], [(B, FILE)]), ([(A, GONE)], [(A, CLEARED)]),
                             ([(A, FILE)], [(A, KEPT)]), ([(A, SEVEN)], [(A, KEPT)]), ([(A, CLEARED)], [(A, KEPT)]),
                             ([(A, KEPT)], []), ([(A, ("opaque", 5))], [(A, FIVE)]), ([(AA, GONE)], [(B, LINK)])]:
            self.check(Layer(lower), Layer(whole), None)

    def test_the_lightest_of_several(self):
        many = [((*A, name), LINK) for name in "abcd"]
        cases = [
            # What the lower one says already is not said again.
            ([(A, FILE)], [(A, FILE), (B, LINK)], 2),
            ([(A, FIVE), (AA, FILE)], [(A, FIVE), (AA, FILE), (AB, LINK)], 3),
            # Gone entries one by one, or an opaque one with what stays.
            ([(A, FIVE), *many], [(A, FIVE), *many[:3], (("a", "d"), GONE)], 1),
            ([(A, SEVEN), *many], [(A, ("opaque", 7)), *many[:1]], 3),
            ([(A, SEVEN), *many], [(A, ("opaque", 7))], 1),
            ([(A, ("opaque", 7)), *many], [(A, ("opaque", 7)), *many[:3]], 1),
            ([(A, ("opaque", 7)), *many], [(A, ("opaque", 7)), *many[:1]], 3),
            ([(A, ("opaque", 7)), *many], [(A, ("opaque", 7)), many[1]], 3),
            # A folder entry over what is gone or a file.
            ([(A, GONE)], [(A, ("opaque", 5))], 1),
            ([(A, OTHER_FILE)], [(A, ("opaque", 5))], 1),
            ([(A, CLEARED)], [(A, ("opaque", None)), (AA, OTHER_FILE)], 4),
            ([(A, GONE)], [(A, ("opaque", 7)), (AA, OTHER_FILE)], 4),
            # A whole that takes more away than the lower one.
            ([(AA, GONE)], [(A, GONE)], 1),
            ([(AA, GONE), (AB, GONE)], [(A, CLEARED)], 1),
            ([(AAA, GONE)], [(AA, GONE), (AB, GONE)], 2),
        ]
        for lower, whole, weight in cases:
            self.check(Layer(lower), Layer(whole), weight)

    def test_large_layers(self):
        rows = [(A, FIVE), *[((*A, "x" + name), FILE) for name in "abcdefghijklmnopqrstuvwxyz"],
                (B, ("opaque", 7)), *[((*B, "x" + name), LINK) for name in "abcdefghijklmnopqrstuvwxyz"]]
        lower = Layer(rows)
        self.check(lower, lower | Layer([(A, KEPT), (("a", "xc"), LINK), (("b", "xd"), GONE)]), 4)
        self.check(lower, Layer([(A, ("opaque", 5)), (B, GONE)]), 2)
        self.check(Layer([(A, KEPT)]), lower, lower.weight())

    def test_long_paths(self):
        lower = Layer([(LONG[:many], KEPT) for many in range(1, 20)] + [(LONG, FILE)])
        self.check(lower, lower | Layer([(LONG, GONE)]), 1)
        self.check(lower, lower | Layer([(LONG[:5], GONE)]), 1)
        self.check(Layer([(LONG, GONE)]), lower, lower.weight())
        self.check(lower, Layer([(LONG, GONE)]), None)

    def test_arguments_stay(self):
        lower, whole = Layer([(A, SEVEN), (AA, LINK)]), Layer([(A, SEVEN), (AA, GONE), (B, FILE)])
        kept = [lower.rows(), whole.rows()]
        self.check(lower, whole, 3)
        self.check(whole, lower, None)
        self.assertEqual([lower.rows(), whole.rows()], kept)


if __name__ == "__main__":
    unittest.main()
