"""[82] and [15]: layers of a run that are laid on another tree."""

import unittest

from recipelayers.layers import Layer
from recipelayers.rebases import rebase
from recipelayers.recipes import Recipe
from recipelayers.runs import Run
from recipelayers.steps import reading
from recipelayers.trees import Tree
from recipe_samples import Maker, model_argued, model_entries, model_run, model_source
from samples import A, AA, AB, B, FILE, FIVE, LINK, OTHER_FILE, SEVEN, check_example, model_laid

EXAMPLE = """
>>> from recipelayers.recipes import Recipe
>>> from recipelayers.trees import Tree
>>> from recipelayers.rebases import rebase
>>> from recipelayers.runs import Run
>>> old = Tree([(("m",), ("file", "one", 4)), (("n",), ("file", "two", 4))])
>>> run = Run(Recipe([("last", "base", [("rights", ("m",), 6), ("delete", ("n",))])]), {"base": old}, {})
>>> tree, clashes, path = rebase(run, Tree([(("m",), ("file", "new", 4))]))
>>> [tree.rows(), clashes, path]
[[(('m',), ('file', 'one', 6))], [(0, ('file', 'one'), ('file', 'new'))], ('m',)]
"""

C = ("c",)
SRC = Tree([(A, SEVEN), (AA, FILE), (AB, LINK), (B, OTHER_FILE)])
RIGHTS, READ = ("rights", AA, 6), ("run", "cc", (("path", AA), ("arg", "u")), C)


def last(*steps, start="src"):
    return Recipe([("last", start, list(steps))])


def model_rebase(recipe, inputs, arguments, start):
    """What rebase returns, in the words of [82]."""
    trees = model_run(recipe, inputs, arguments)
    name, _, steps = recipe.stages()[-1]
    tree = other = start
    clashes = []
    for at, step in enumerate(steps):
        step = model_argued(step, arguments)
        source = model_source(step[1], trees, inputs) if step[0] == "copy" else Tree()
        layer = Layer(list(model_entries(step, trees[name][at], source).items()))
        told, there = reading(step, trees[name][at], source), reading(step, other, source)
        if told != there:
            clashes.append((at, told, there))
        tree = Tree(model_laid(tree, layer))
        other = Tree(model_laid(other, Layer(list(model_entries(step, other, source).items()))))
    return tree, clashes, next((path for path in sorted({*tree.paths(), *other.paths()})
                                if tree.node(path) != other.node(path)), None)


class TestRebase(unittest.TestCase):

    def check(self, recipe, inputs, arguments, start):
        run = Run(recipe, inputs, arguments)
        told = rebase(run, start)
        self.assertIs(told.__class__, tuple)
        self.assertEqual(told, model_rebase(recipe, inputs, arguments, start))
        tree, clashes, path = told
        for layer in run.layers():
            start = start | layer
        self.assertEqual(tree, start)
        if not clashes:
            self.assertIsNone(path)
        return tree, clashes, path

    def test_example(self):
        check_example(self, EXAMPLE)

    def test_the_run_itself(self):
        maker = Maker(82)
        for _ in range(100):
            recipe, inputs, arguments = maker.recipe(), maker.inputs(), maker.arguments()
            run = Run(recipe, inputs, arguments)
            self.assertEqual(self.check(recipe, inputs, arguments, run.before(0)), (run.tree(), [], None))

    def test_no_steps(self):
        for start in [SRC, Tree(), Tree([(C, FILE)])]:
            self.assertEqual(self.check(last(), {"src": SRC}, {}, start), (start, [], None))

    def test_starts_near_the_one_of_the_run(self):
        recipe = last(RIGHTS, READ, ("delete", B))
        inputs, arguments = {"src": SRC}, {"u": "x"}
        cases = [
            # What no step reads may be another one.
            ([(A, FIVE), (AA, FILE), (AB, LINK)], [], None), ([(A, SEVEN), (AA, ("file", "x", 0))], [], None),
            ([(A, SEVEN), (AA, ("file", "y", 4))], [(0, ("file", "x"), ("file", "y")), (1, ("x", "x"), ("y", "x"))], AA),
            ([(A, SEVEN), (AA, FIVE)], [(0, ("file", "x"), ("folder",)), (1, ("x", "x"), (None, "x"))], AA),
            ([(A, SEVEN), (AA, LINK)], [(0, ("file", "x"), None), (1, ("x", "x"), (None, "x"))], AA),
            ([(A, LINK)], [(0, ("file", "x"), None), (1, ("x", "x"), (None, "x"))], A),
            ([], [(0, ("file", "x"), None), (1, ("x", "x"), (None, "x"))], A),
        ]
        for rows, clashes, path in cases:
            self.assertEqual(self.check(recipe, inputs, arguments, Tree(rows))[1:], (clashes, path))

    def test_rights_steps(self):
        for node, other, clash in [(FILE, ("file", "x", 7), None), (FILE, OTHER_FILE, (("file", "x"), ("file", OTHER_FILE[1]))),
                                   (FIVE, SEVEN, None), (FIVE, FILE, (("folder",), ("file", "x"))), (LINK, ("link", "y"), None),
                                   (LINK, None, None), (None, FIVE, (None, ("folder",))), (FIVE, LINK, (("folder",), None))]:
            trees = [Tree([(A, some)] if some else []) for some in [node, other]]
            told = self.check(last(("rights", A, 6)), {"src": trees[0]}, {}, trees[1])
            self.assertEqual(told[1], [(0, *clash)] if clash else [])

    def test_clashes_after_which_the_trees_are_equal(self):
        steps = [RIGHTS, READ, ("delete", A), ("write", C, "x", 4)]
        tree, clashes, path = self.check(last(*steps), {"src": SRC}, {}, Tree([(B, LINK)]))
        self.assertEqual([tree.rows(), [at for at, _, _ in clashes], path], [[(B, LINK), (C, ("file", "x", 4))], [0, 1], None])
        # A later one that hides it may be missing.
        self.assertEqual(self.check(last(*steps[:3]), {"src": SRC}, {}, Tree([(B, LINK)]))[2], C)
        self.assertEqual(self.check(last(*steps[:1], *steps[3:]), {"src": SRC}, {}, Tree([(B, LINK)]))[2], A)

    def test_a_clash_behind_another_one(self):
        # The second run has another reading because the first one has.
        steps = [READ, ("delete", AA), ("run", "ld", (("path", C),), B), ("rights", C, 0)]
        tree, clashes, path = self.check(last(*steps), {"src": SRC}, {"u": "t"}, Tree())
        one, other = ("made", "cc", ("x", "t")), ("made", "cc", (None, "t"))
        self.assertEqual(clashes, [(0, ("x", "t"), (None, "t")), (2, (one,), (other,)), (3, ("file", one), ("file", other))])
        self.assertEqual(path, B)

    def test_copies_read_the_told_input(self):
        # Although the last stage begins with another tree than the input of the same name.
        recipe = last(("copy", "src", A, C), ("rights", ("c", "a"), 0))
        for start in [Tree(), Tree([(A, FIVE), (AA, LINK)]), Tree([(C, LINK)])]:
            tree, clashes, path = self.check(recipe, {"src": SRC}, {}, start)
            self.assertEqual([tree.under(C), clashes, path], [[(("a",), ("file", "x", 0)), (("b",), LINK)], [], None])
        # The same if the input is missing.
        self.assertEqual(self.check(recipe, {}, {}, SRC), (SRC, [], None))

    def test_copies_from_stages(self):
        by = ("by", "src", [("delete", AB), ("write", ("a", "c"), ("arg", "u"), 4)])
        for start in ["by", "src", None]:
            recipe = Recipe([by, ("last", start, [("copy", "by", A, B), ("run", "cc", (("path", ("b", "c")), ("path", AA)), C)])])
            for tree in [Tree(), SRC, Tree([(A, FIVE), (AA, ("file", "z", 4))])]:
                told = self.check(recipe, {"src": SRC}, {"u": "new"}, tree)
                content = tree.node(AA)[1] if AA in tree else None
                old = "x" if start is not None else None
                self.assertEqual(told[1], [(1, ("new", old), ("new", content))] if content != old else [])

    def test_stages_ahead_of_the_last_one(self):
        # Their steps are not laid again, whatever they would read there.
        recipe = Recipe([("by", "src", [RIGHTS, READ]), ("next", "by", [RIGHTS]), ("last", "next", [("delete", B)])])
        tree = Tree([(B, LINK), (C, LINK)])
        self.assertEqual(self.check(recipe, {"src": SRC}, {}, tree), (Tree([(C, LINK)]), [], None))

    def test_arguments(self):
        recipe = last(("write", A, ("arg", "u"), 4), ("run", "cc", (("arg", "v"), ("path", B)), C))
        tree, clashes, path = self.check(recipe, {"src": SRC}, {"u": "one", "w": "x"}, Tree())
        self.assertEqual(tree.node(A), ("file", "one", 4))
        self.assertEqual([clashes, path], [[(1, ("", OTHER_FILE[1]), ("", None))], C])

    def test_the_least_path(self):
        tree, clashes, path = self.check(last(("rights", B, 6), ("rights", A, 6), ("rights", AA, 6)), {"src": SRC}, {}, Tree())
        self.assertEqual([path, [at for at, _, _ in clashes]], [A, [0, 1, 2]])
        tree, clashes, path = self.check(last(("rights", B, 6), ("rights", ("c",), 6)), {"src": SRC}, {}, Tree([(A, FILE)]))
        self.assertEqual(path, B)

    def test_many(self):
        maker = Maker(83)
        found = []
        for _ in range(600):
            recipe, inputs, arguments = maker.recipe(), maker.inputs(), maker.arguments()
            old = Run(recipe, inputs, arguments).before(0)
            for start in [maker.tree(), near(maker, old)]:
                _, clashes, path = self.check(recipe, inputs, arguments, start)
                found.append((len(clashes) > 0, path is None))
        self.assertGreater(min(found.count(kind) for kind in [(True, True), (True, False), (False, True)]), 10)
        self.assertEqual(found.count((False, False)), 0)


def near(maker, tree):
    """A Tree in which one row is another one, or missing."""
    rows = tree.rows()
    if not rows:
        return tree
    path, _ = maker.random.choice(rows)
    kept = [(other, node) for other, node in rows if other[:len(path)] != path]
    return Tree(kept if maker.random.random() < 0.3 else [*kept, (path, maker.node())])


class TestStays(unittest.TestCase):

    def test_arguments_stay_and_results_are_new(self):
        recipe = last(RIGHTS, ("copy", "src", A, C), READ)
        inputs, start = {"src": SRC}, Tree([(B, LINK)])
        run = Run(recipe, inputs, {})
        inputs.clear()
        tree, clashes, path = rebase(run, start)
        kept = list(clashes)
        clashes.clear()
        self.assertEqual(rebase(run, start), (tree, kept, path))
        same = Run(recipe, {"src": SRC}, {})
        self.assertEqual([run.stack(), run.readings(), start], [same.stack(), same.readings(), Tree([(B, LINK)])])


if __name__ == "__main__":
    unittest.main()
