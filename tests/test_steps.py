"""[50], [51] and [10]: steps."""

import re
import unittest
from itertools import product

from recipelayers.layers import Layer
from recipelayers.steps import argued, is_step, reading, written
from recipelayers.trees import Tree
from recipe_samples import STEPS, Maker, model_argued, model_entries
from samples import (A, AA, AB, B, FILE, FIVE, KEPT, LINK, NODES, OTHER_FILE, SEVEN, Checks, Odd, any_values,
                     check_example, deep, model_laid, small_trees)

EXAMPLE = """
>>> from recipelayers.steps import reading
>>> from recipelayers.trees import Tree
>>> tree = Tree([(("bin",), ("folder", 5)), (("bin", "x"), ("file", "one", 4))])
>>> reading(("copy", "base", ("bin",), ("b",)), tree, tree)
[((), ('folder', 5)), (('x',), ('file', 'one', 4))]
"""

AAA = ("a", "a", "a")
PUT = [("write", AA, "x", 0), ("folder", AA, 7), ("link", AA, "y"), ("delete", AA), ("clear", AA), ("rights", AA, 6),
       ("run", "cc", (), AA), ("run", "cc", (("path", AA), ("path", A), ("path", AAA)), AA),
       ("run", "ld", (("text", "t"), ("path", AAA), ("text", "")), AA)]
WORLD = small_trees((A, AA, AAA, AB), NODES + [OTHER_FILE])
SOURCES = small_trees((A, AA, AAA, B), [FILE, LINK, FIVE, SEVEN])


def name(thing):
    return thing.__class__ is str and re.fullmatch("[a-z]{1,8}", thing) is not None


def path(thing):
    return thing.__class__ is tuple and len(thing) <= 4 and all(name(part) for part in thing)


def place(thing):
    return path(thing) and thing != ()


def text(thing):
    return thing.__class__ is str and len(thing) <= 20


def argument(thing):
    return thing.__class__ is tuple and len(thing) == 2 and thing[0].__class__ is str and thing[0] == "arg" and name(thing[1])


def told_text(thing):
    return text(thing) or argument(thing)


def rights(thing):
    return thing.__class__ is int and 0 <= thing <= 7


def reads(thing):
    return thing.__class__ is tuple and len(thing) <= 3 and all(read(part) for part in thing)


def read(thing):
    if thing.__class__ is not tuple or len(thing) != 2 or thing[0].__class__ is not str:
        return False
    return {"path": place, "text": text, "arg": name}.get(thing[0], lambda worth: False)(thing[1])


# The first column of the table of [50].
FORMS = {"write": [place, told_text, rights], "folder": [place, rights], "link": [place, told_text], "delete": [place],
         "clear": [place], "copy": [name, path, path], "rights": [place, rights], "run": [name, reads, place]}


def told_step(thing):
    """Whether thing is a step, from the table."""
    if thing.__class__ is not tuple or len(thing) == 0 or thing[0].__class__ is not str or thing[0] not in FORMS:
        return False
    form = FORMS[thing[0]]
    return len(thing) == len(form) + 1 and all(check(part) for check, part in zip(form, thing[1:]))


class TestIsStep(Checks, unittest.TestCase):

    def test_steps(self):
        for step in [*STEPS, *PUT]:
            self.assertTruth(True, is_step(step))
        four = ("a", "bb", "c", "zzzzzzzz")
        for step in [("write", four, "", 7), ("link", four, "x" * 20), ("folder", four, 0), ("delete", four),
                     ("clear", four), ("rights", four, 0), ("copy", "abcdefgh", four, four), ("copy", "a", (), four),
                     ("copy", "a", four, ()), ("copy", "a", (), ()), ("run", "abcdefgh", (("path", four),) * 3, four),
                     ("run", "cc", (("text", ""), ("text", "x" * 20), ("arg", "abcdefgh")), A),
                     ("run", "cc", (("path", A), ("path", A)), A)]:
            self.assertTruth(True, is_step(step))

    def test_paths_of_no_and_of_five_names(self):
        five = ("a",) * 5
        for path in [(), five, ("a",) * 19000]:
            for step in [("write", path, "x", 4), ("folder", path, 4), ("link", path, "x"), ("delete", path),
                         ("clear", path), ("rights", path, 4), ("run", "cc", (), path),
                         ("run", "cc", (("path", path),), A)]:
                self.assertTruth(False, is_step(step))
        for step in [("copy", "a", five, A), ("copy", "a", A, five), ("copy", "a", five, ()), ("copy", "a", (), five)]:
            self.assertTruth(False, is_step(step))

    def test_any_value(self):
        for thing in [*any_values(), [], ()]:
            with self.subTest(thing=thing):
                self.assertTruth(False, is_step(thing))

    def test_any_value_at_any_place(self):
        found = []
        for step in [*STEPS, *PUT]:
            for at in range(len(step)):
                for thing in [*any_values(), [], (), ("a", "b", "c"), "abc"]:
                    other = (*step[:at], thing, *step[at + 1:])
                    found.append(told_step(other))
                    with self.subTest(step=other):
                        self.assertTruth(found[-1], is_step(other))
        self.assertGreater(found.count(True), 200)
        self.assertGreater(found.count(False), 2000)

    def test_any_value_within_texts_paths_and_reads(self):
        for thing in any_values():
            for step in [("write", A, ("arg", thing), 4), ("link", A, ("arg", thing)), ("write", A, (thing, "u"), 4),
                         ("write", A, ("arg", "u", thing), 4), ("run", "cc", (("arg", thing),), A),
                         ("run", "cc", (("text", thing),), A), ("run", "cc", (("path", thing),), A),
                         ("run", "cc", ((thing, "u"),), A), ("run", "cc", (("path", A), thing), A),
                         ("run", "cc", (("path", ("a", thing)),), A), ("delete", ("a", thing)), ("delete", (thing,)),
                         ("copy", "src", (thing,), A), ("copy", "src", A, (thing, "a"))]:
                with self.subTest(step=step):
                    self.assertTruth(told_step(step), is_step(step))

    def test_other_kinds_and_forms(self):
        wrong = [list(step) for step in STEPS] + [step[:-1] for step in STEPS] + [(*step, None) for step in STEPS]
        wrong += [(step,) for step in STEPS] + [[step] for step in STEPS] + [dict(enumerate(step)) for step in STEPS]
        wrong += [("write", ["a"], "x", 4), ("write", "a", "x", 4), ("write", A, ["arg", "u"], 4), ("copy", "src", [], A),
                  ("write", A, ("text", "u"), 4), ("link", A, ("path", A)), ("write", A, ("made", "cc", ()), 4),
                  ("write", A, None, 4), ("write", A, "x" * 21, 4), ("link", A, "x" * 21), ("link", A, b"x"),
                  ("folder", A, None), ("folder", A, 8), ("rights", A, -1), ("rights", A, True), ("folder", A, False),
                  ("write", A, "x", True), ("write", A, "x", None), ("gone", A), ("cleared", A), ("file", A, "x", 4),
                  ("opaque", A, 5), ("Write", A, "x", 4), ("write ", A, "x", 4), (b"delete", A), ("delete", ("A",)),
                  ("delete", ("a", "")), ("delete", ("a", "abcdefghi")), ("delete", ("a1",)), ("copy", "Src", A, B),
                  ("copy", "", A, B), ("copy", None, A, B), ("copy", ("src",), A, B), ("run", "cc", [], A),
                  ("run", "cc", [("path", A)], A), ("run", "cc", (["path", A],), A), ("run", "cc", (("path", A),) * 4, A),
                  ("run", "", (), A), ("run", "cc", ((),), A), ("run", "cc", (("path",),), A), ("run", "cc", None, A),
                  ("run", "cc", (("text", ("arg", "u")),), A), ("run", "cc", (("text", "x" * 21),), A),
                  ("run", "cc", (("text", None),), A), ("run", "cc", (("arg", "u", "v"),), A), ("run", "cc", "", A),
                  ("run", "cc", ("path", A), A), ("run", "cc", (("link", "x"),), A), ("delete", Odd()),
                  (Odd(), A), ("write", A, Odd(), 4), ("run", "cc", Odd(), A), ("run", "cc", (Odd(), Odd()), A),
                  ("delete", deep(tuple)), ("run", "cc", deep(tuple), A), ("run", "cc", (("text", deep(list)),), A)]
        for thing in wrong:
            with self.subTest(thing=thing):
                self.assertTruth(False, is_step(thing))


class TestReadingAndLayer(Checks, unittest.TestCase):

    def check(self, step, tree, source):
        """The Layer of a step is that of the table, and what it makes of the tree follows from it."""
        layer = written(step, reading(step, tree, source))
        self.assertIs(layer.__class__, Layer)
        self.assertEqual(layer, Layer(list(model_entries(step, tree, source).items())))
        self.assertEqual((tree | layer).rows(), model_laid(tree, layer))

    def test_example(self):
        check_example(self, EXAMPLE)

    def test_steps_on_trees(self):
        # At the path, above it and beneath it stands a file, a link, a folder or nothing.
        for step in PUT:
            for tree in WORLD:
                self.check(step, tree, Tree())

    def test_copies(self):
        tree = Tree([(A, SEVEN), (AB, FILE), (B, LINK)])
        for origin, path in product([(), A, AA, AAA, B, ("z",), ("a", "b", "c", "d")], [(), A, AB, ("x", "y", "z", "w")]):
            for source in SOURCES:
                self.check(("copy", "src", origin, path), tree, source)

    def test_readings_without_any(self):
        for step in [("write", A, "x", 4), ("folder", A, 4), ("link", A, "x"), ("delete", A), ("clear", A)]:
            for tree in small_trees((A, AA)):
                self.assertIsNone(reading(step, tree, tree))

    def test_readings_of_rights(self):
        wanted = {None: None, FILE: ("file", "x"), OTHER_FILE: OTHER_FILE[:2], LINK: None, FIVE: ("folder",),
                  SEVEN: ("folder",)}
        for tree in WORLD:
            self.assertEqual(reading(("rights", AA, 6), tree, Tree()), wanted[tree.node(AA)])

    def test_readings_of_runs(self):
        content = ("made", "zip", ("x", None))
        tree = Tree([(A, FIVE), (AA, FILE), (AB, LINK), (B, OTHER_FILE)])
        self.assertEqual(reading(("run", "cc", (), A), tree, Tree()), ())
        self.assertEqual(reading(("run", "cc", (("path", AA), ("path", B), ("path", AA)), A), tree, Tree()),
                         ("x", content, "x"))
        self.assertEqual(reading(("run", "cc", (("path", A), ("path", AB), ("path", AAA)), A), tree, tree),
                         (None, None, None))
        self.assertEqual(reading(("run", "cc", (("text", "t"), ("path", ("z",)), ("text", "")), A), tree, tree),
                         ("t", None, ""))

    def test_readings_of_copies(self):
        source = Tree([(A, SEVEN), (AA, FILE), (AB, FIVE), (("a", "b", "c"), LINK), (B, OTHER_FILE)])
        rows = [(("a",), FILE), (("b",), FIVE), (("b", "c"), LINK)]
        cases = {(A, B): [((), SEVEN), *rows], (A, ()): rows, ((), B): source.rows(), ((), ()): source.rows(),
                 (B, A): [((), OTHER_FILE)], (B, ()): [], (("z",), A): [], (("z",), ()): [], (AB, ()): [(("c",), LINK)],
                 (("a", "b", "c"), A): [((), LINK)]}
        for (origin, path), wanted in cases.items():
            told = reading(("copy", "src", origin, path), Tree(), source)
            self.assertEqual(told, wanted)
            self.assertIs(told.__class__, list)
        # The tree before the copy does not matter.
        self.assertEqual(reading(("copy", "src", A, B), source, Tree()), [])

    def test_layers(self):
        cases = [
            (("write", AA, "x", 4), None, [(A, KEPT), (AA, FILE)]),
            (("folder", A, 7), None, [(A, SEVEN)]),
            (("link", AAA, "x"), None, [(A, KEPT), (AA, KEPT), (AAA, LINK)]),
            (("delete", AAA), None, [(AAA, ("gone",))]),
            (("clear", AA), None, [(AA, ("cleared",))]),
            (("rights", AA, 6), None, []),
            (("rights", AA, 6), ("folder",), [(A, KEPT), (AA, ("folder", 6))]),
            (("rights", A, 6), ("file", ("made", "cc", ())), [(A, ("file", ("made", "cc", ()), 6))]),
            (("run", "cc", (("path", B),), AA), (None,), [(A, KEPT), (AA, ("file", ("made", "cc", (None,)), 5))]),
            (("copy", "src", A, AA), [], [(A, KEPT)]),
            (("copy", "src", A, ()), [], []),
            (("copy", "src", (), AA), [], [(A, KEPT), (AA, ("opaque", None))]),
            (("copy", "src", (), ()), [], []),
            (("copy", "src", (), ()), [(A, SEVEN), (AA, FIVE), (B, FILE)], [(A, ("opaque", 7)), (AA, FIVE), (B, FILE)]),
            (("copy", "src", A, B), [((), SEVEN), (A, FIVE)], [(B, ("opaque", 7)), (("b", "a"), FIVE)]),
            (("copy", "src", (), B), [(A, SEVEN)], [(B, ("opaque", None)), (("b", "a"), SEVEN)]),
            (("copy", "src", A, AB), [((), LINK)], [(A, KEPT), (AB, LINK)]),
        ]
        for step, told, rows in cases:
            self.assertEqual(written(step, told).rows(), rows)

    def test_what_a_copy_leaves(self):
        # It puts what the source has whole: nothing stays of what was beneath.
        tree = Tree([(A, SEVEN), (AA, FILE), (AB, FILE), (B, FIVE), (("b", "x"), FILE)])
        source = Tree([(A, FIVE), (AA, LINK)])
        made = [tree | written(step, reading(step, tree, source)) for step in
                [("copy", "s", (), A), ("copy", "s", A, A), ("copy", "s", (), ()), ("copy", "s", A, ()),
                 ("copy", "s", B, A), ("copy", "s", B, ()), ("copy", "s", A, ("b", "x"))]]
        b_rows = [(B, FIVE), (("b", "x"), FILE)]
        self.assertEqual([some.rows() for some in made], [
            [(A, SEVEN), (AA, FIVE), (AAA, LINK), *b_rows], [(A, FIVE), (AA, LINK), *b_rows],
            [(A, FIVE), (AA, LINK), *b_rows], [(A, LINK), *b_rows], tree.rows(), tree.rows(),
            [*tree.rows()[:4], (("b", "x"), FIVE), (("b", "x", "a"), LINK)]])

    def test_equal_readings_equal_layers(self):
        # [10]: and unlike readings unlike ones.
        steps = [*PUT, *[("copy", "src", origin, path) for origin in [(), A, AA] for path in [(), A, AB]]]
        for step in steps:
            found = {}
            for tree in small_trees((A, AA, AAA), (FILE, OTHER_FILE, LINK, FIVE, SEVEN)):
                told = reading(step, tree, tree)
                found.setdefault(repr(told), set()).add(repr(written(step, told)))
            layers = [layer for some in found.values() for layer in some]
            self.assertEqual([len(some) for some in found.values()], [1] * len(found))
            self.assertEqual(len(layers), len(set(layers)))

    def test_argued(self):
        arguments = {"u": "text", "v": "", "w": "x" * 20}
        cases = [
            (("write", A, ("arg", "u"), 4), ("write", A, "text", 4)), (("link", A, ("arg", "w")), ("link", A, "x" * 20)),
            (("link", A, ("arg", "z")), ("link", A, "")), (("write", A, "arg", 4), ("write", A, "arg", 4)),
            (("write", A, ("arg", "v"), 4), ("write", A, "", 4)),
            (("run", "cc", (("arg", "u"), ("path", A), ("arg", "z")), A),
             ("run", "cc", (("text", "text"), ("path", A), ("text", "")), A)),
            (("run", "u", (("text", "u"), ("path", ("u",))), A), ("run", "u", (("text", "u"), ("path", ("u",))), A)),
            (("run", "u", (("text", "u"), ("arg", "u")), A), ("run", "u", (("text", "u"), ("text", "text")), A)),
        ]
        for step, wanted in cases:
            self.assertEqual(argued(step, arguments), wanted)
        self.assertEqual(argued(("write", A, ("arg", "u"), 4), {}), ("write", A, "", 4))
        maker = Maker(51)
        for _ in range(300):
            step = maker.step(["src"])
            self.assertEqual(argued(step, arguments), model_argued(step, arguments))
            self.assertTruth(True, is_step(argued(step, arguments)))
        self.assertEqual(arguments, {"u": "text", "v": "", "w": "x" * 20})

    def test_arguments_stay_and_lists_are_new(self):
        source = Tree([(A, FIVE), (AA, FILE)])
        step = ("copy", "src", A, B)
        told = reading(step, Tree(), source)
        kept = list(told)
        layer = written(step, told)
        self.assertEqual(told, kept)
        told.clear()
        self.assertEqual([layer, reading(step, Tree(), source), source.rows()],
                         [Layer([(B, ("opaque", 5)), (("b", "a"), FILE)]), kept, [(A, FIVE), (AA, FILE)]])
        self.assertIsNot(reading(step, Tree(), source), reading(step, Tree(), source))


if __name__ == "__main__":
    unittest.main()
