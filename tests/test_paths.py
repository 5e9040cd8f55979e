"""What the files of the package share to work with paths."""

import unittest

from recipelayers.paths import by_parent, either, lies_beneath, name_at, unused_name


class TestPaths(unittest.TestCase):

    def test_names_in_order(self):
        names = [name_at(at) for at in range(26 + 26 * 26 + 2)]
        self.assertEqual(names[:3] + names[24:29] + names[50:54] + names[-3:],
                         ["a", "b", "c", "y", "z", "aa", "ab", "ac", "ay", "az", "ba", "bb", "zz", "aaa", "aab"])
        self.assertEqual(len(set(names)), len(names))

    def test_unused_name(self):
        self.assertEqual(unused_name([]), "a")
        self.assertEqual(unused_name([(), ("b",)]), "a")
        self.assertEqual(unused_name([("b", "a"), ("d",)]), "c")
        self.assertEqual(unused_name([(letter,) for letter in "abcdefghijklmnopqrstuvwxyz"]), "aa")
        self.assertEqual(unused_name([("aa",), tuple("zyxwvutsrqponmlkjihgfedcba")]), "ab")

    def test_beneath(self):
        cases = [(("a", "b"), ("a",), True), (("a", "b"), (), True), (("a",), ("a",), False), ((), (), False),
                 (("a",), ("a", "b"), False), (("ab",), ("a",), False), (("b", "a"), ("a",), False)]
        for path, top, wanted in cases:
            self.assertIs(lies_beneath(path, top), wanted)

    def test_either(self):
        self.assertEqual(either([("b",), ("a",)], [("a", "a"), ("b",)]), [("a",), ("a", "a"), ("b",)])

    def test_by_parent(self):
        self.assertEqual(by_parent([]), {(): []})
        self.assertEqual(by_parent([("a",), ("a", "a"), ("a", "b"), ("b",)]),
                         {(): [("a",), ("b",)], ("a",): [("a", "a"), ("a", "b")], ("a", "a"): [], ("a", "b"): [],
                          ("b",): []})


if __name__ == "__main__":
    unittest.main()
