"""[60] and [61]: what a recipe has at a path for all inputs."""

import unittest

from recipelayers.asking import value
from recipelayers.recipes import Recipe
from recipelayers.runs import Run
from recipelayers.trees import Tree
from recipe_samples import ANSWERS, Maker, Open, answered, model_node
from samples import A, AA, AB, B, FIVE, Checks, check_example

EXAMPLE = """
>>> from recipelayers.asking import value
>>> from recipelayers.recipes import Recipe
>>> one = Recipe([("last", "base", [("copy", "src", ("lib",), ("app",)), ("delete", ("app", "old"))])])
>>> [value(one, ("app", "m"), {}), value(one, ("app",), {("src", ("lib",)): "link"})]
[('ask', 'src', ('lib',)), ('told', ('link', ('of', 'src', ('lib',))))]
"""

AAA = ("a", "a", "a")
C = ("c",)


def model_value(recipe, path, answers):
    """What value returns, in the words of [61]."""
    name, _, steps = recipe.stages()[-1]
    try:
        return ("told", model_node(recipe, name, len(steps), path, answered(answers)))
    except Open as error:
        return ("ask", *error.args)


def answers_of(inputs, recipe, path):
    """The answers that inputs give until value tells a node, and this node."""
    answers = {}
    while True:
        told = value(recipe, path, answers)
        if told[0] == "told":
            return answers, told[1]
        _, name, asked = told
        node = inputs.get(name, Tree()).node(asked)
        answers[(name, asked)] = "none" if node is None else node[0]


def put_in(thing, inputs, arguments, last=False):
    """A described node, content or rights with what inputs and arguments have in place of the unknowns."""
    if not isinstance(thing, tuple):
        return thing
    if thing[0] == "of":
        return inputs[thing[1]].node(thing[2])[-1 if last else 1]
    if thing[0] == "arg":
        return arguments.get(thing[1], "")
    if thing[0] == "made":
        return ("made", thing[1], tuple(put_in(part, inputs, arguments) for part in thing[2]))
    if thing[0] == "folder":
        return ("folder", put_in(thing[1], inputs, arguments, True))
    content = put_in(thing[1], inputs, arguments)
    return ("link", content) if thing[0] == "link" else ("file", content, put_in(thing[2], inputs, arguments, True))


def recipe_of(*steps, start="base"):
    return Recipe([("last", start, list(steps))])


class TestValue(Checks, unittest.TestCase):

    def check(self, steps, path, answers, told, start="base"):
        recipe = recipe_of(*steps, start=start)
        self.assertEqual(value(recipe, path, answers), told)
        self.assertEqual(value(recipe, path, dict(reversed(answers.items()))), told)

    def test_example(self):
        check_example(self, EXAMPLE)

    def test_where_stages_start(self):
        self.check([], A, {}, ("told", None), start=None)
        self.check([], A, {}, ("ask", "base", A))
        recipe = Recipe([("one", "src", [("link", A, "x")]), ("two", "one", [])])
        self.assertEqual([value(recipe, A, {}), value(recipe, B, {})], [("told", ("link", "x")), ("ask", "src", B)])

    def test_an_input_is_asked_from_the_top(self):
        self.check([], AAA, {}, ("ask", "base", A))
        self.check([], AAA, {("base", A): "folder"}, ("ask", "base", AA))
        self.check([], AAA, {("base", A): "folder", ("base", AA): "folder"}, ("ask", "base", AAA))
        for answer in ["none", "file", "link"]:
            self.check([], AAA, {("base", A): answer}, ("told", None))
            self.check([], AAA, {("base", A): "folder", ("base", AA): answer}, ("told", None))
        of = ("of", "base", AAA)
        above = {("base", A): "folder", ("base", AA): "folder"}
        for answer, node in [("none", None), ("file", ("file", of, of)), ("link", ("link", of)), ("folder", ("folder", of))]:
            self.check([], AAA, {**above, ("base", AAA): answer}, ("told", node))
        # Answers to other inputs and at other paths are none.
        self.check([], A, {("src", A): "file", ("base", B): "file"}, ("ask", "base", A))

    def test_steps_that_put(self):
        steps = [(("write", AA, "x", 4), ("file", "x", 4)), (("write", AA, ("arg", "u"), 4), ("file", ("arg", "u"), 4)),
                 (("link", AA, ("arg", "u")), ("link", ("arg", "u"))), (("link", AA, "x"), ("link", "x")),
                 (("folder", AA, 7), ("folder", 7)), (("run", "cc", (), AA), ("file", ("made", "cc", ()), 5))]
        of = ("of", "base", A)
        for step, node in steps:
            self.check([step], AA, {}, ("told", node))
            self.check([step], A, {}, ("ask", "base", A))
            self.check([step], A, {("base", A): "folder"}, ("told", ("folder", of)))
            for answer in ["none", "file", "link"]:
                self.check([step], A, {("base", A): answer}, ("told", FIVE))
            if step[0] == "folder":
                self.check([step], AAA, {}, ("ask", "base", A))
            else:
                self.check([step], AAA, {}, ("told", None))
            self.check([step], AB, {}, ("ask", "base", A))
            self.check([step], B, {}, ("ask", "base", B))

    def test_runs(self):
        step = ("run", "cc", (("path", AB), ("arg", "u"), ("path", B)), AA)
        above = {("base", A): "folder"}
        self.check([step], AA, {}, ("ask", "base", A))
        self.check([step], AA, above, ("ask", "base", AB))
        self.check([step], AA, {**above, ("base", AB): "file"}, ("ask", "base", B))
        for answer, part in [("file", ("of", "base", B)), ("link", None), ("folder", None), ("none", None)]:
            self.check([step], AA, {("base", A): "link", ("base", B): answer},
                       ("told", ("file", ("made", "cc", (None, ("arg", "u"), part)), 5)))
            self.check([step], AA, {**above, ("base", AB): "file", ("base", B): answer},
                       ("told", ("file", ("made", "cc", (("of", "base", AB), ("arg", "u"), part)), 5)))
        # The files are those of the steps before, not of the step itself or of later ones.
        steps = [("write", A, "x", 4), ("run", "cc", (("path", A), ("text", "t")), A), ("write", B, "y", 4),
                 ("run", "ld", (("path", A), ("path", B), ("path", C)), B)]
        self.check(steps, B, {("base", C): "file"}, ("told", ("file", ("made", "ld", (
            ("made", "cc", ("x", "t")), "y", ("of", "base", C))), 5)))

    def test_delete_and_clear(self):
        for path in [AA, AAA, (*AAA, "a")]:
            self.check([("delete", AA)], path, {}, ("told", None))
        for path in [A, AB, B]:
            self.check([("delete", AA)], path, {}, ("ask", "base", path[:1]))
        for path in [AAA, (*AAA, "a")]:
            self.check([("clear", AA)], path, {}, ("told", None))
        for path in [A, AA, AB, B]:
            self.check([("clear", AA)], path, {}, ("ask", "base", path[:1]))

    def test_rights(self):
        step = ("rights", AA, 6)
        of = ("of", "base", AA)
        above = {("base", A): "folder"}
        self.check([step], AA, {}, ("ask", "base", A))
        for answer, node in [("none", None), ("file", ("file", of, 6)), ("link", ("link", of)), ("folder", ("folder", 6))]:
            self.check([step], AA, {**above, ("base", AA): answer}, ("told", node))
        self.check([step], AA, {("base", A): "file"}, ("told", None))
        self.check([step], A, {("base", A): "folder"}, ("told", ("folder", ("of", "base", A))))
        self.check([step], AAA, {}, ("ask", "base", A))
        self.check([("write", A, ("arg", "u"), 4), ("rights", A, 6)], A, {}, ("told", ("file", ("arg", "u"), 6)))

    def test_copy(self):
        step = ("copy", "src", AB, AA)
        of = ("of", "src", AB)
        there = {("src", A): "folder", ("src", AB): "folder"}
        # Above the path it is as a write above one.
        self.check([step], A, {}, ("ask", "base", A))
        self.check([step], A, {("base", A): "link"}, ("told", FIVE))
        self.check([step], A, {("base", A): "folder"}, ("told", ("folder", ("of", "base", A))))
        # At and beneath it the source is asked at q first.
        for path in [AA, AAA]:
            self.check([step], path, {}, ("ask", "src", A))
            self.check([step], path, {("src", A): "folder"}, ("ask", "src", AB))
            self.check([step], path, {("src", A): "link"}, ("ask", "base", A))
            self.check([step], path, {("src", A): "folder", ("src", AB): "none"}, ("ask", "base", A))
        self.check([step], AA, there, ("told", ("folder", of)))
        self.check([step], AA, {**there, ("src", AB): "file"}, ("told", ("file", of, of)))
        self.check([step], AAA, there, ("ask", "src", ("a", "b", "a")))
        self.check([step], AAA, {**there, ("src", AB): "file"}, ("told", None))
        self.check([step], AAA, {**there, ("src", ("a", "b", "a")): "none"}, ("told", None))
        self.check([step], AB, {}, ("ask", "base", A))

    def test_copy_of_the_whole_source(self):
        step = ("copy", "src", (), AA)
        for path in [A, AA]:
            self.check([step], path, {}, ("ask", "base", A))
            self.check([step], path, {("base", A): "file"}, ("told", FIVE))
        self.check([step], AA, {("base", A): "folder", ("base", AA): "folder"}, ("told", ("folder", ("of", "base", AA))))
        self.check([step], (*AA, "c"), {}, ("ask", "src", C))
        self.check([step], (*AA, "c"), {("src", C): "none"}, ("told", None))
        self.check([step], (*AA, "c"), {("src", C): "link"}, ("told", ("link", ("of", "src", C))))

    def test_copy_to_the_root(self):
        step = ("copy", "src", AB, ())
        self.check([step], C, {}, ("ask", "src", A))
        above = {("src", A): "folder", ("src", AB): "folder"}
        path = ("a", "b", "c")
        for asked in [C, ("c", "d")]:
            self.check([step], asked, {("src", A): "folder", ("src", AB): "file"}, ("ask", "base", C))
            self.check([step], asked, above, ("ask", "src", path))
            self.check([step], asked, {**above, ("src", path): "none"}, ("ask", "base", C))
        self.check([step], C, {**above, ("src", path): "folder"}, ("told", ("folder", ("of", "src", path))))
        self.check([step], ("c", "d"), {**above, ("src", path): "folder"}, ("ask", "src", (*path, "d")))
        self.check([step], ("c", "d"), {**above, ("src", path): "folder", ("src", (*path, "d")): "none"}, ("told", None))
        self.check([step], ("c", "d"), {**above, ("src", path): "link"}, ("told", None))

    def test_copy_of_all_to_the_root(self):
        step = ("copy", "src", (), ())
        for path in [A, AB]:
            self.check([step], path, {}, ("ask", "src", A))
            self.check([step], path, {("src", A): "none"}, ("ask", "base", A))
            self.check([step], path, {("src", A): "none", ("base", A): "none"}, ("told", None))
        self.check([step], AB, {("src", A): "file"}, ("told", None))
        self.check([step], AB, {("src", A): "folder"}, ("ask", "src", AB))
        self.check([step], AB, {("src", A): "folder", ("src", AB): "none"}, ("told", None))

    def test_copy_from_a_stage(self):
        recipe = Recipe([("one", "src", [("write", AA, "x", 4), ("delete", AB)]), ("two", "base", [("copy", "one", A, B)])])
        self.assertEqual(value(recipe, ("b", "a"), {}), ("ask", "src", A))
        self.assertEqual(value(recipe, ("b", "a"), {("src", A): "none"}), ("told", ("file", "x", 4)))
        self.assertEqual(value(recipe, ("b", "b"), {("src", A): "none"}), ("told", None))
        self.assertEqual(value(recipe, ("b", "c"), {("src", A): "none"}), ("told", None))
        self.assertEqual(value(recipe, ("b", "c"), {("src", A): "folder"}), ("ask", "src", ("a", "c")))
        self.assertEqual(value(recipe, B, {("src", A): "link"}), ("told", FIVE))

    def test_from_the_last_step_back(self):
        steps = [("copy", "src", A, A), ("clear", A), ("write", AA, "x", 4), ("rights", AA, 7), ("copy", "other", (), B)]
        self.check(steps, AA, {}, ("told", ("file", "x", 7)))
        self.check(steps, AB, {}, ("told", None))
        self.check(steps, A, {}, ("ask", "src", A))
        self.check(steps, A, {("src", A): "none"}, ("ask", "base", A))
        self.check(steps, A, {("src", A): "file"}, ("told", FIVE))

    def test_the_words_of_the_document(self):
        # Question by question, with every answer, in recipes of all kinds.
        maker = Maker(61)
        for _ in range(250):
            recipe = maker.recipe(4)
            for _ in range(4):
                path = maker.path(1, 4)
                answers = {}
                while True:
                    told = value(recipe, path, answers)
                    self.assertEqual(told, model_value(recipe, path, answers))
                    turned = list(answers.items())
                    maker.random.shuffle(turned)
                    self.assertEqual(value(recipe, path, dict(turned)), told)
                    if told[0] == "told":
                        break
                    _, name, asked = told
                    self.assertNotIn((name, asked), answers)
                    self.assertTrue(all(answers.get((name, asked[:many])) == "folder" for many in range(1, len(asked))))
                    answers[(name, asked)] = maker.random.choice([*ANSWERS, "folder", "folder"])

    def test_what_a_run_has_there(self):
        maker = Maker(62)
        for _ in range(300):
            recipe, inputs, arguments = maker.recipe(4), maker.inputs(), maker.arguments()
            run = Run(recipe, inputs, arguments)
            for path in [maker.path(1, 4) for _ in range(5)] + run.tree().paths():
                _, node = answers_of(inputs, recipe, path)
                self.assertEqual(put_in(node, inputs, arguments), run.tree().node(path))

    def test_arguments_stay(self):
        recipe = recipe_of(("copy", "src", A, B))
        answers = {("src", A): "none", ("base", B): "file"}
        kept = dict(answers)
        value(recipe, B, answers)
        self.assertEqual([answers, recipe], [kept, recipe_of(("copy", "src", A, B))])
        answers.clear()
        self.assertEqual(value(recipe, B, answers), ("ask", "src", A))


if __name__ == "__main__":
    unittest.main()
