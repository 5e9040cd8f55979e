"""What the package keeps together of nodes and unknown values; not a part of the interface."""

import unittest

from recipelayers.nodes import content_of, node_of, rights_of, texts_of, with_rights
from recipelayers.unknowns import parting_rights, unused_texts
from samples import FILE, FIVE, LINK, OTHER_FILE

OF, OTHER = ("of", "in", ("a",)), ("of", "in", ("b",))


class TestNodes(unittest.TestCase):

    def test_parts(self):
        for node, content, rights, texts in [
                (FILE, "x", 4, ["x"]), (OTHER_FILE, ("made", "zip", ("x", None)), 4, ["x"]), (LINK, None, None, ["x"]),
                (FIVE, None, 5, []), (("file", ("made", "cc", ("a", ("made", "cc", ("b",)), "c")), 0),
                                      ("made", "cc", ("a", ("made", "cc", ("b",)), "c")), 0, ["a", "b", "c"])]:
            self.assertEqual([content_of(node), rights_of(node), texts_of(node)], [content, rights, texts])
        self.assertEqual([content_of(None), rights_of(None)], [None, None])
        self.assertEqual([content_of(("file", OF, OTHER)), rights_of(("file", OF, OTHER)), rights_of(("link", OF))],
                         [OF, OTHER, None])

    def test_other_rights(self):
        for node, wanted in [(FILE, ("file", "x", 7)), (FIVE, ("folder", 7)), (LINK, LINK), (None, None),
                             (("file", OF, OF), ("file", OF, 7)), (("folder", OF), ("folder", 7))]:
            self.assertEqual(with_rights(node, 7), wanted)

    def test_nodes_of_each_kind(self):
        self.assertEqual([node_of(kind, "x", 4) for kind in ["file", "link", "folder"]], [FILE, LINK, ("folder", 4)])


class TestUnknowns(unittest.TestCase):

    def test_unused_texts(self):
        for used in [[], ["0"], ["x", "1", "1", "3"], [str(number) for number in range(50)]]:
            texts = unused_texts(9, used)
            self.assertEqual([len(texts), len(set(texts)), set(texts) & set(used)], [9, 9, set()])
        self.assertEqual(unused_texts(0, []), [])

    def test_parting_rights(self):
        for one in [*range(8), OF, OTHER]:
            for other in [*range(8), OF, OTHER]:
                rights = parting_rights(("folder", one), ("file", "x", other))
                told = [rights.get(some[1:], 5) if isinstance(some, tuple) else some for some in (one, other)]
                self.assertEqual(told[0] == told[1], one == other)
        for one, other in [(None, ("folder", OF)), (LINK, ("file", "x", OF)), (("folder", OF), None)]:
            self.assertEqual(list(parting_rights(one, other)), [OF[1:]])
        self.assertEqual([parting_rights(None, LINK), parting_rights(FIVE, None)], [{}, {}])


if __name__ == "__main__":
    unittest.main()
