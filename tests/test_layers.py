"""[30]: layers, and what [2], [3] and [4] say of them."""

import unittest
from itertools import permutations, product

from recipelayers.errors import NoFolder, Wrong
from recipelayers.layers import Layer
from recipelayers.trees import Tree
from samples import (A, AA, AB, B, CLEARED, ENTRIES, FILE, FIVE, GONE, KEPT, LINK, OTHER_FILE, SEVEN, Checks, Odd,
                     any_values, check_example, model_word, small_layers, wrong_rows)

EXAMPLE = """
>>> from recipelayers.layers import Layer
>>> layer = Layer([(('a',), ('opaque', 7)), (('a', 'b'), ('folder', None)), (('a', 'c'), ('gone',)), (('d', 'e'), ('gone',))])
>>> layer.rows()
[(('a',), ('opaque', 7)), (('a', 'b'), ('folder', 5)), (('d', 'e'), ('gone',))]
>>> [layer.word(('a',)), layer.word(('a', 'c')), layer.word(('d',)), layer.hides(('a', 'b'))]
[('folder', 7), 'gone', 'keep', True]
>>> Layer([(('a', 'b'), ('link', 'x'))])
raises NoFolder(('a', 'b'))
"""

AAA = ("a", "a", "a")
ROWS = [(A, KEPT), (AA, ("opaque", 7)), (AAA, LINK), (AB, CLEARED), (("ab",), OTHER_FILE), (B, ("opaque", None)),
        (("c", "c", "c"), GONE), (("d",), SEVEN), (("d", "d"), FIVE), (("e",), LINK), (("f",), GONE)]


def above(path):
    return [path[:many] for many in range(1, len(path))]


def told_misplaced(rows):
    """The least path of an entry that is not as [2] asks, in the words of [30], or None."""
    table = dict(rows)
    bad = []
    for path, entry in rows:
        kinds = [table[top][0] for top in above(path) if top in table]
        opened = [kind for kind in kinds if kind in ("folder", "opaque")]
        if len(opened) < len(kinds):
            bad.append(path)
        elif entry[0] in ("file", "link", "folder", "opaque") and len(opened) < len(path) - 1:
            bad.append(path)
    return min(bad, default=None)


def told_written(rows):
    """The rows as [2] writes them."""
    table = dict(rows)
    written = []
    for path, entry in sorted(rows, key=lambda row: row[0]):
        inside = any(table.get(top, ("",))[0] == "opaque" for top in above(path))
        if inside and entry[0] in ("gone", "cleared"):
            continue
        if inside and entry[0] in ("folder", "opaque"):
            entry = ("folder", 5 if entry[1] is None else entry[1])
        written.append((path, entry))
    return written


class TestLayer(Checks, unittest.TestCase):

    def test_example(self):
        check_example(self, EXAMPLE)

    def test_rows_in_any_order_as_list_or_tuple(self):
        for at in range(len(ROWS)):
            turned = ROWS[at:] + ROWS[:at]
            for rows in [turned, turned[::-1], tuple(turned), tuple(turned[::-1])]:
                self.assertEqual(Layer(rows).rows(), ROWS)

    def test_no_rows(self):
        for layer in [Layer(), Layer([]), Layer(())]:
            self.assertEqual([layer.rows(), len(layer), layer.weight(), repr(layer)], [[], 0, 0, "Layer([])"])
            self.assertEqual([layer.word(A), layer.word(AAA), layer.entry(A), layer.entry(())],
                             ["keep", "keep", None, None])
            self.assertTruth(False, layer.hides(AA))
            self.assertTruth(False, A in layer)

    def test_every_three_entries(self):
        for paths in [(A, AA, AAA), (A, AA, AB)]:
            for entries in product([None, *ENTRIES], repeat=3):
                rows = [(path, entry) for path, entry in zip(paths, entries) if entry is not None]
                bad = told_misplaced(rows)
                if bad is None:
                    self.assertEqual(Layer(rows).rows(), told_written(rows))
                    self.assertEqual(Layer(told_written(rows)), Layer(rows))
                else:
                    self.assertFails(NoFolder, "path", bad, Layer, rows)
                    self.assertFails(NoFolder, "path", bad, Layer, tuple(reversed(rows)))

    def test_beneath_opaque_entries(self):
        rows = [(A, ("opaque", None)), (AA, ("opaque", None)), (AAA, ("opaque", 7)), (("a", "a", "b"), GONE),
                (("a", "a", "c"), CLEARED), (("a", "a", "d"), KEPT), (("a", "a", "e"), SEVEN), (("a", "z", "z"), GONE),
                (AB, OTHER_FILE), (("ab",), ("opaque", None)), (B, KEPT), (("b", "a"), GONE)]
        self.assertEqual(Layer(rows[::-1]).rows(), [
            (A, ("opaque", None)), (AA, FIVE), (AAA, SEVEN), (("a", "a", "d"), FIVE), (("a", "a", "e"), SEVEN),
            (AB, OTHER_FILE), (("ab",), ("opaque", None)), (B, KEPT), (("b", "a"), GONE)])

    def test_an_opaque_entry_within_a_folder(self):
        rows = [(A, KEPT), (AA, ("opaque", None)), (AAA, ("opaque", 0)), (AB, ("opaque", None)), (("a", "c"), KEPT)]
        self.assertEqual(Layer(rows).rows(), [(A, KEPT), (AA, ("opaque", None)), (AAA, ("folder", 0)),
                                              (AB, ("opaque", None)), (("a", "c"), KEPT)])

    def test_entries(self):
        layer = Layer(ROWS)
        for path, entry in ROWS:
            self.assertEqual(layer.entry(path), entry)
            self.assertTruth(True, path in layer)
        for path in [(), ("c",), ("c", "c"), ("a", "a", "b"), ("z",), ("z",) * 20]:
            self.assertIsNone(layer.entry(path))
            self.assertTruth(False, path in layer)

    def test_words(self):
        layer = Layer(ROWS)
        words = {A: KEPT, AA: SEVEN, AAA: LINK, ("a", "a", "b"): "gone", ("a", "a", "b", "c"): "gone", AB: "keep",
                 ("a", "b", "c"): "gone", ("a", "c"): "keep", ("ab",): OTHER_FILE, ("ab", "a"): "gone", B: KEPT,
                 ("b", "b"): "gone", ("c",): "keep", ("c", "c"): "keep", ("c", "c", "c"): "gone",
                 ("c", "c", "c", "c"): "gone", ("c", "c", "d"): "keep", ("d",): SEVEN, ("d", "d"): FIVE,
                 ("d", "d", "d"): "keep", ("e",): LINK, ("e", "e"): "gone", ("f",): "gone", ("f",) * 20: "gone",
                 ("g",): "keep", ("g",) * 20: "keep"}
        self.assertEqual({path: layer.word(path) for path in words}, words)

    def test_words_are_those_of_the_definition(self):
        paths = [A, AA, AB, AAA, ("a", "b", "a"), B, ("b", "a")]
        for layer in small_layers((A, AA, AB)):
            for path in paths:
                self.assertEqual(layer.word(path), model_word(layer, path))

    def test_hides(self):
        layer = Layer(ROWS)
        hiding = [AA, AAA, ("a", "a", "b"), AB, ("a", "b", "a"), ("ab",), ("ab", "a"), B, ("b", "b"), ("c", "c", "c"),
                  ("c", "c", "c", "c"), ("e",), ("e", "e"), ("f",), ("f",) * 20]
        others = [A, ("a", "c"), ("c",), ("c", "c"), ("c", "c", "d"), ("d",), ("d", "d"), ("d", "d", "d"), ("g",)]
        for path in hiding:
            self.assertTruth(True, layer.hides(path))
        for path in others:
            self.assertTruth(False, layer.hides(path))

    def test_hides_tells_words_without_entries(self):
        for layer in small_layers((A, AA)):
            for path in [A, AA, AB, ("a", "a", "z"), B]:
                word = "gone" if layer.hides(path) else "keep"
                self.assertEqual(layer.word((*path, "zz")), word)

    def test_weight(self):
        weights = [(FILE, 2), (OTHER_FILE, 3), (("file", ("made", "zip", ()), 5), 2), (LINK, 2), (FIVE, 1), (KEPT, 1),
                   (("opaque", None), 1), (("opaque", 7), 1), (GONE, 1), (CLEARED, 1),
                   (("file", ("made", "zip", ("a", None, ("made", "tar", ("b", "c")))), 4), 6)]
        for entry, weight in weights:
            self.assertEqual(Layer([(A, entry)]).weight(), weight)
        self.assertEqual(Layer(ROWS).weight(), 1 + 1 + 2 + 1 + 3 + 1 + 1 + 1 + 1 + 2 + 1)
        self.assertEqual(Layer([(A, ("opaque", 5)), (AA, GONE)]).weight(), 1)

    def test_equal_if_the_entries_are(self):
        layers = small_layers((A, AA))
        for at, one in enumerate(layers):
            for other_at, other in enumerate(layers):
                self.assertTruth(at == other_at, one == other)
                self.assertTruth(at != other_at, one != other)
            self.assertTruth(True, one == Layer(tuple(one.rows()[::-1])))

    def test_equal_to_nothing_else(self):
        for layer in [Layer(), Layer([(A, FIVE)])]:
            for thing in [None, [], (), {}, layer.rows(), repr(layer), dict(layer.rows()), Tree(layer.rows()), 0]:
                self.assertTruth(False, layer == thing)
                self.assertTruth(True, layer != thing)

    def test_length_and_repr(self):
        self.assertEqual(len(Layer(ROWS)), 11)
        self.assertEqual(len(Layer([(A, ("opaque", 5)), (AA, GONE), (AB, FIVE)])), 2)
        self.assertEqual(repr(Layer(ROWS[::-1])), "Layer(" + repr(ROWS) + ")")
        self.assertEqual(repr(Layer([(AA, GONE), (A, ("opaque", None))])), "Layer([(('a',), ('opaque', None))])")


class TestLayerErrors(Checks, unittest.TestCase):

    def test_wrong_rows(self):
        for good in [FILE, GONE]:
            for rows in wrong_rows(good):
                with self.subTest(rows=rows):
                    self.assertFails(Wrong, "place", 0, Layer, rows)

    def test_any_value_as_rows(self):
        for rows in any_values():
            with self.subTest(rows=rows):
                self.assertFails(Wrong, "place", 0, Layer, rows)

    def test_any_value_as_entry(self):
        for entry in any_values():
            with self.subTest(entry=entry):
                self.assertFails(Wrong, "place", 0, Layer, [(A, entry)])
                self.assertFails(Wrong, "place", 0, Layer, ((B, FILE), (A, entry)))

    def test_wrong_ahead_of_no_folder(self):
        for rows in [[(AA, FILE), (B, None)], [(AA, FILE), (AA, FILE)], [(AA, FILE), ((), FIVE)], [(AA, FILE), 5],
                     [(A, GONE), (AA, GONE), (AA, GONE)]]:
            self.assertFails(Wrong, "place", 0, Layer, rows)

    def test_no_folder_beneath_what_has_nothing_beneath_it(self):
        for closed in [FILE, LINK, GONE, CLEARED]:
            for entry in ENTRIES:
                for path in [AA, AAA, ("a",) * 20]:
                    self.assertFails(NoFolder, "path", path, Layer, [(A, closed), (path, entry)])
                    self.assertFails(NoFolder, "path", ("b", *path), Layer,
                                     [(B, ("opaque", 5)), (("b", "a"), closed), (("b", *path), entry)])

    def test_no_folder_above_what_is_put(self):
        for entry in [FILE, LINK, FIVE, KEPT, ("opaque", None), ("opaque", 7)]:
            self.assertFails(NoFolder, "path", AA, Layer, [(AA, entry)])
            self.assertFails(NoFolder, "path", AAA, Layer, [(A, KEPT), (AAA, entry)])
            self.assertFails(NoFolder, "path", AA, Layer, [(AA, FIVE), (AAA, entry)])
            self.assertFails(NoFolder, "path", AAA, Layer, [(A, ("opaque", 5)), (AAA, entry)])

    def test_what_takes_away_needs_no_folder(self):
        for entry in [GONE, CLEARED]:
            for path in [AA, AAA, ("a",) * 20]:
                self.assertEqual(Layer([(path, entry)]).rows(), [(path, entry)])
                self.assertEqual(Layer([(path, entry), (A, KEPT)]).rows(), [(A, KEPT), (path, entry)])

    def test_what_a_text_says_is_no_kind(self):
        for text in ["gone", "cleared", "folder", "opaque", "keep", "file"]:
            for entry in [("link", text), ("file", text, 4)]:
                self.assertFails(NoFolder, "path", AA, Layer, [(AA, entry)])
                self.assertFails(NoFolder, "path", AA, Layer, [(A, entry), (AA, GONE)])
                layer = Layer([(A, ("opaque", 5)), (AA, entry), (B, entry)])
                self.assertEqual([layer.word(AA), layer.word(B), layer.word(AAA), layer.word(AB)],
                                 [entry, entry, "gone", "gone"])
                self.assertEqual(layer.rows()[1:], [(AA, entry), (B, entry)])

    def test_no_folder_tells_the_least_path(self):
        rows = [(("b", "a"), FILE), (A, GONE), (("a", "z"), GONE), (("a", "b", "c"), CLEARED), (("c", "a"), GONE)]
        for some in permutations(rows):
            self.assertFails(NoFolder, "path", ("a", "b", "c"), Layer, some)
        rows = [(A, LINK), (("aa",), GONE), (("aa", "b"), GONE), (("ab", "b"), FILE)]
        for some in permutations(rows):
            self.assertFails(NoFolder, "path", ("aa", "b"), Layer, some)
        self.assertFails(NoFolder, "path", AAA, Layer, [(A, FIVE), (("ab",), GONE), (AA, CLEARED), (AAA, GONE)])

    def test_a_long_path(self):
        path = ("a",) * 19000
        self.assertFails(NoFolder, "path", path, Layer, [(path, FILE)])
        self.assertEqual(Layer([(path, GONE)]).entry(path), GONE)


class TestLayerStays(unittest.TestCase):

    def test_arguments_stay(self):
        rows = list(reversed(ROWS))
        Layer(rows)
        self.assertEqual(rows, list(reversed(ROWS)))
        bad = [(AB, FILE), (A, FILE), (B, Odd())]
        before = list(bad)
        with self.assertRaises(Wrong):
            Layer(bad)
        self.assertTrue(all(one is other for one, other in zip(bad, before)) and len(bad) == 3)

    def test_a_passed_list_is_copied(self):
        rows = list(ROWS)
        layer = Layer(rows)
        rows.clear()
        self.assertEqual(layer.rows(), ROWS)

    def test_a_returned_list_is_new(self):
        layer = Layer(ROWS)
        first = layer.rows()
        first.clear()
        self.assertEqual([layer.rows(), layer], [ROWS, Layer(ROWS)])


if __name__ == "__main__":
    unittest.main()
