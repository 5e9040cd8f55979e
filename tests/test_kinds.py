"""[21]: the kinds of [2], of any value, size and stands."""

import unittest

from recipelayers import kinds
from recipelayers.trees import Tree
from samples import Checks, Odd, any_values, check_example, deep, model_stands

EXAMPLE = """
>>> from recipelayers.kinds import is_content, is_entry, size, stands
>>> [is_content(("made", "zip", ("a", None))), is_entry(("folder", None)), is_entry(("file", "a", 8)), size(("made", "zip", ("a", None, "b")))]
[True, True, False, 3]
>>> [stands(("folder", None), ("link", "a")), stands("keep", None), stands("gone", ("folder", 7))]
[('folder', 5), None, None]
"""


def nested(depth):
    """A content that is made of one that is made of one, and so on."""
    content = "x"
    for _ in range(depth):
        content = ("made", "zip", (content,))
    return content


class TestKinds(Checks, unittest.TestCase):

    def check(self, question, good, bad):
        for thing in good:
            with self.subTest(good=thing):
                self.assertTruth(True, question(thing))
        for thing in bad:
            with self.subTest(bad=thing):
                self.assertTruth(False, question(thing))

    def test_example(self):
        check_example(self, EXAMPLE)

    def test_integers(self):
        self.check(kinds.is_integer, [0, 1, -1, 10 ** 39, -10 ** 39, 10 ** 60],
                   [True, False, None, "1", b"1", (1,), [1], {}, Odd(), int])

    def test_names(self):
        self.check(kinds.is_name, ["a", "z", "abcdefgh", "qqqqqqqq", "made"],
                   ["", "abcdefghi", "A", "aB", "a1", "a_", "a b", " a", "a\n", "a/b", "-", None, 5, True, b"a",
                    ("a",), ["a"], {"a": 1}, Odd(), "a" * 19000])

    def test_paths(self):
        self.check(kinds.is_path, [(), ("a",), ("a", "abcdefgh"), ("a",) * 20, ("a",) * 21, ("a",) * 19000],
                   [[], ["a"], "a", "", None, 5, ("A",), ("",), ("a", ""), ("a", None), ("a", ("b",)), ("a", 5),
                    ("abcdefghi",), (b"a",), (True,), {"a": 1}, {"a"}, Odd(), (Odd(),), ("a",) * 19000 + ("B",)])

    def test_texts(self):
        self.check(kinds.is_text, ["", "a", "x" * 20, " \n", "Any Sign: /$\"\\"],
                   ["x" * 21, "x" * 20000, None, 5, True, b"x", ("x",), ["x"], Odd(), ("made", "zip", ())])

    def test_contents(self):
        good = ["", "x" * 20, ("made", "zip", ()), ("made", "zip", (None,)), ("made", "zip", (None, None, None)),
                ("made", "abcdefgh", ("x", None, "x" * 20)), ("made", "zip", (("made", "tar", ("x",)), "y")),
                nested(20), nested(21), nested(14), ("made", "made", ("made",))]
        bad = ["x" * 21, None, 5, True, ("made", "zip"), ("made", "zip", (), ()), ("made", "", ()), ("made", "Zip", ()),
               ("made", "abcdefghi", ()), ("made", None, ()), ("made", "zip", []), ("made", "zip", None),
               ("made", "zip", "x"), ["made", "zip", ()], ("make", "zip", ()), (b"made", "zip", ()), ("made", 5, ()),
               ("made", "zip", ("a", "b", "c", "d")), ("made", "zip", (5,)), ("made", "zip", (True,)),
               ("made", "zip", (("made", "zip", ("x" * 21,)),)), ("made", "zip", (["made", "zip", ()],)),
               ("made", "zip", ((),)), (Odd(), "zip", ()), ("made", Odd(), ()), ("made", "zip", Odd()),
               ("made", "zip", (Odd(),)), deep(tuple), deep(list), ("file", "x", 4)]
        self.check(kinds.is_content, good, bad)

    def test_rights(self):
        self.check(kinds.is_rights, list(range(8)),
                   [-1, 8, 10 ** 39, -10 ** 39, True, False, None, "5", (5,), [5], Odd()])

    def test_nodes(self):
        good = [("file", "", 0), ("file", "x" * 20, 7), ("file", nested(14), 5), ("link", ""), ("link", "x" * 20),
                ("folder", 0), ("folder", 7)]
        bad = [("folder", None), ("opaque", 5), ("opaque", None), ("gone",), ("cleared",), (), ("file", "x", 4)[:2],
               ("link", "x" * 21), ("folder", 8), ("file", "x" * 21, 4)]
        self.check(kinds.is_node, good, bad + any_values())

    def test_entries(self):
        good = [("file", "", 0), ("file", ("made", "zip", (None,)), 7), ("link", "x"), ("folder", 0), ("folder", 7),
                ("folder", None), ("opaque", 0), ("opaque", 7), ("opaque", None), ("gone",), ("cleared",)]
        self.check(kinds.is_entry, good, [(), ("gone", "gone"), ("opaque", -1), ("gone"), ["opaque", 5]] + any_values())

    def test_any_value_is_asked_of_each(self):
        for thing in any_values():
            for name in ["integer", "name", "path", "text", "content", "rights", "node", "entry"]:
                self.assertIn(getattr(kinds, "is_" + name)(thing).__class__, [bool])

    def test_own_objects_are_nothing_of_this(self):
        for name in ["integer", "name", "path", "text", "content", "rights", "node", "entry"]:
            self.assertTruth(False, getattr(kinds, "is_" + name)(Tree()))
            self.assertTruth(False, getattr(kinds, "is_" + name)(Odd()))


class TestSize(unittest.TestCase):

    def test_sizes(self):
        sizes = [("", 1), ("x" * 20, 1), (("made", "zip", ()), 1), (("made", "zip", (None,)), 1),
                 (("made", "zip", ("a", "b", "c")), 4), (("made", "zip", (None, ("made", "tar", ("a", "b")), "c")), 5),
                 (nested(19), 20), (nested(25), 26)]
        for content, size in sizes:
            self.assertEqual(kinds.size(content), size)


class TestStands(unittest.TestCase):

    def test_table(self):
        file, link, folder = ("file", "x", 4), ("link", "a"), ("folder", 7)
        nodes = [None, file, link, folder, ("folder", 5), ("file", "x", 5)]
        for node in nodes:
            self.assertEqual(kinds.stands("keep", node), node)
            self.assertIsNone(kinds.stands("gone", node))
            for word in [file, link, ("folder", 0), folder, ("file", ("made", "zip", ()), 4)]:
                self.assertEqual(kinds.stands(word, node), word)
        self.assertEqual([kinds.stands(("folder", None), node) for node in nodes],
                         [("folder", 5), ("folder", 5), ("folder", 5), folder, ("folder", 5), ("folder", 5)])

    def test_model(self):
        nodes = [None, ("file", "x", 4), ("link", "keep"), ("link", "gone"), ("folder", 0), ("folder", 5)]
        for word in ["keep", "gone", ("folder", None), *nodes[1:]]:
            for node in nodes:
                self.assertEqual(kinds.stands(word, node), model_stands(word, node))


if __name__ == "__main__":
    unittest.main()
