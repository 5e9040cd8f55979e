"""[53] and [54]: runs."""

import unittest
from types import GeneratorType

from recipelayers.errors import NoStage, NoStep, Wrong
from recipelayers.layers import Layer
from recipelayers.recipes import Recipe
from recipelayers.runs import Run, moments
from recipelayers.stacks import Stack
from recipelayers.trees import Tree
from recipe_samples import Maker, model_argued, model_entries, model_run, model_source
from samples import A, AA, AB, B, FILE, FIVE, LINK, OTHER_FILE, SEVEN, Checks, Odd, any_values, check_example, deep

EXAMPLE = """
>>> from recipelayers.recipes import Recipe
>>> from recipelayers.runs import Run
>>> from recipelayers.trees import Tree
>>> make = [("copy", "src", ("lib",), ("app",)), ("run", "cc", (("path", ("app", "m")), ("arg", "flag")), ("out", "m"))]
>>> recipe = Recipe([("make", None, make), ("last", "base", [("copy", "make", ("out",), ()), ("rights", ("m",), 7)])])
>>> src = Tree([(("lib",), ("folder", 6)), (("lib", "m"), ("file", "main", 4))])
>>> run = Run(recipe, {"src": src}, {"flag": "fast"})
>>> [recipe.inputs(), run.layers("make")[0].rows(), run.tree().rows()]
[['base', 'src'], [(('app',), ('opaque', 6)), (('app', 'm'), ('file', 'main', 4))], [(('m',), ('file', ('made', 'cc', ('main', 'fast')), 7))]]
"""

SRC = Tree([(A, SEVEN), (AA, FILE), (AB, LINK), (B, OTHER_FILE)])
RECIPE = Recipe([("make", None, [("copy", "src", A, B), ("run", "cc", (("path", ("b", "a")), ("arg", "u")), A)]),
                 ("empty", "make", []),
                 ("last", "src", [("copy", "make", (), AA), ("write", ("c",), ("arg", "v"), 4), ("rights", A, 6)])])
INPUTS = {"src": SRC, "base": Tree([(A, FILE)])}
ARGUMENTS = {"u": "one", "v": "two"}


class TestRun(Checks, unittest.TestCase):

    def check(self, recipe, inputs, arguments):
        """A Run and moments tell what the words of [2] and the table of [50] say."""
        run = Run(recipe, inputs, arguments)
        trees = model_run(recipe, inputs, arguments)
        told = list(moments(recipe, inputs, arguments))
        for name, start, steps in recipe.stages():
            some = [moment for moment in told if moment[0] == name]
            walked = trees[name]
            self.assertEqual([run.before(at, name) for at in range(len(steps) + 1)], walked)
            self.assertEqual(run.tree(name), walked[-1])
            plain = [model_argued(step, arguments) for step in steps]
            self.assertEqual([moment[1:3] for moment in some], list(enumerate(plain)))
            sources = [model_source(step[1], trees, inputs) if step[0] == "copy" else None for step in steps]
            layers = [Layer(list(model_entries(step, tree, source).items()))
                      for step, tree, source in zip(plain, walked, sources)]
            self.assertEqual([run.layers(name), [moment[4] for moment in some]], [layers, layers])
            self.assertEqual(run.readings(name), [moment[3] for moment in some])
            self.assertEqual(run.stack(name), Stack(model_source(start, trees, inputs), layers))
            self.assertEqual(run.stack(name).tree(), run.tree(name))
        last = recipe.stages()[-1][0]
        self.assertEqual([run.tree(), run.layers(), run.readings(), run.stack(), run.before(0)],
                         [run.tree(last), run.layers(last), run.readings(last), run.stack(last), run.before(0, last)])
        self.assertEqual(run.tree(None), run.tree(last))
        self.assertEqual([moment[:2] for moment in told],
                         [(name, at) for name, _, steps in recipe.stages() for at in range(len(steps))])

    def test_example(self):
        check_example(self, EXAMPLE)

    def test_many_runs(self):
        maker = Maker(53)
        for _ in range(400):
            self.check(maker.recipe(), maker.inputs(), maker.arguments())

    def test_one_run(self):
        self.check(RECIPE, INPUTS, ARGUMENTS)
        run = Run(RECIPE, INPUTS, ARGUMENTS)
        made = ("made", "cc", ("x", "one"))
        self.assertEqual(run.readings("make"), [[((), SEVEN), (("a",), FILE), (("b",), LINK)], ("x", "one")])
        self.assertEqual(run.readings("empty"), [])
        self.assertEqual(run.readings(), [run.tree("make").rows(), None, ("folder",)])
        self.assertEqual(run.tree("make").rows(),
                         [(A, ("file", made, 5)), (B, SEVEN), (("b", "a"), FILE), (("b", "b"), LINK)])
        self.assertEqual(run.tree().node(("c",)), ("file", "two", 4))
        self.assertEqual(run.tree().node(("a", "a", "a")), ("file", made, 5))

    def test_made_contents_among_the_parts(self):
        steps = [("run", "cc", (), A), ("run", "ld", (("path", A), ("path", B), ("path", AA)), B),
                 ("run", "zip", (("path", B), ("text", "t"), ("path", B)), A), ("rights", A, 0)]
        one = ("made", "cc", ())
        two = ("made", "ld", (one, None, None))
        run = Run(Recipe([("last", None, steps)]), {}, {})
        self.assertEqual(run.tree().rows(), [(A, ("file", ("made", "zip", (two, "t", two)), 0)), (B, ("file", two, 5))])
        self.assertEqual(run.readings(), [(), (one, None, None), (two, "t", two), ("file", ("made", "zip", (two, "t", two)))])

    def test_where_stages_start(self):
        for start, rows in [(None, []), ("make", [(A, LINK)]), ("src", SRC.rows()), ("nothere", [])]:
            recipe = Recipe([("make", None, [("link", A, "x")]), ("last", start, [])])
            self.assertEqual(Run(recipe, INPUTS, {}).tree().rows(), rows)
            self.assertEqual(Run(recipe, INPUTS, {}).stack(), Stack(Tree(rows)))

    def test_missing_inputs_and_arguments(self):
        self.check(RECIPE, {}, {})
        run = Run(RECIPE, {}, {})
        made = ("made", "cc", (None, ""))
        self.assertEqual(run.tree().rows(), [(A, ("folder", 6)), (AA, FIVE), (("a", "a", "a"), ("file", made, 5)),
                                             (("c",), ("file", "", 4))])

    def test_names_that_the_recipe_does_not_tell(self):
        more = {**INPUTS, "other": Tree([(A, LINK)]), "u": Tree([(B, FIVE)])}
        # An input that is called as a stage is not asked.
        more = {**more, "make": Tree([(A, FILE), (B, LINK)]), "last": SRC, "empty": SRC}
        self.assert_same(Run(RECIPE, INPUTS, ARGUMENTS), Run(RECIPE, more, {**ARGUMENTS, "w": "x", "make": "y", "src": "z"}))

    def assert_same(self, one, other):
        for name in ["make", "empty", "last"]:
            self.assertEqual([one.tree(name), one.layers(name), one.readings(name), one.stack(name)],
                             [other.tree(name), other.layers(name), other.readings(name), other.stack(name)])

    def test_no_step_and_eight_steps(self):
        run = Run(Recipe([("last", "src", [])]), INPUTS, {})
        self.assertEqual([run.tree(), run.before(0), run.layers(), run.readings()], [SRC, SRC, [], []])
        self.assertEqual(list(moments(Recipe([("last", "src", [])]), INPUTS, {})), [])
        steps = [("write", (name,), name, 4) for name in "abcdefgh"]
        recipe = Recipe([("one", None, steps), ("two", "one", steps[::-1]), ("three", "two", steps)])
        self.check(recipe, {}, {})
        self.assertEqual([len(Run(recipe, {}, {}).layers("two")), len(list(moments(recipe, {}, {})))], [8, 24])

    def test_four_runs(self):
        reads = (("path", A),)
        steps = [("run", "cc", reads, A) for _ in range(4)]
        content = None
        for _ in range(4):
            content = ("made", "cc", (content,))
        self.assertEqual(Run(Recipe([("last", None, steps)]), {}, {}).tree().rows(), [(A, ("file", content, 5))])

    def test_no_stage_and_no_step(self):
        run = Run(RECIPE, INPUTS, ARGUMENTS)
        for name in ["src", "base", "a", "u", "lasts"]:
            for call in [run.tree, run.layers, run.readings, run.stack, lambda told: run.before(0, told),
                         lambda told: run.before(99, told)]:
                self.assertFails(NoStage, "name", name, call, name)
        for name, many in [("make", 2), ("empty", 0), ("last", 3), (None, 3)]:
            self.assertEqual(run.before(many, name), run.tree(name))
            for at in [many + 1, many + 2, -1, -2, 10 ** 39, -10 ** 39]:
                self.assertFails(NoStep, "at", at, run.before, at, name)
        self.assertFails(NoStep, "at", 4, run.before, 4)
        self.assertFails(NoStep, "at", True, run.before, True)

    def test_arguments_by_keyword(self):
        run = Run(RECIPE, INPUTS, ARGUMENTS)
        self.assertEqual([run.tree(name="make"), run.before(1, name="make")], [run.tree("make"), run.before(1, "make")])


class TestMoments(unittest.TestCase):

    def test_a_generator(self):
        told = moments(RECIPE, INPUTS, ARGUMENTS)
        self.assertIsInstance(told, GeneratorType)
        name, at, step, reading, layer = next(told)
        self.assertEqual([name, at, step], ["make", 0, ("copy", "src", A, B)])
        self.assertEqual([reading, layer.rows()[0]], [[((), SEVEN), (("a",), FILE), (("b",), LINK)], (B, ("opaque", 7))])
        self.assertEqual(next(told)[2], ("run", "cc", (("path", ("b", "a")), ("text", "one")), A))
        self.assertEqual(next(told)[:2], ("last", 0))

    def test_left_early_walked_twice_and_two_at_once(self):
        whole = list(moments(RECIPE, INPUTS, ARGUMENTS))
        self.assertEqual(len(whole), 5)
        one, other = moments(RECIPE, INPUTS, ARGUMENTS), moments(RECIPE, INPUTS, {"u": "other"})
        found = [next(one), next(other), next(one), next(other), next(one)]
        self.assertEqual(found[::2], whole[:3])
        self.assertEqual(found[3][3], ("x", "other"))
        one.close()
        self.assertEqual(len(list(other)), 3)
        for moment in moments(RECIPE, INPUTS, ARGUMENTS):
            if moment[:2] == ("make", 1):
                break
        self.assertEqual([list(moments(RECIPE, INPUTS, ARGUMENTS)), list(one)], [whole, []])

    def test_a_reading_belongs_to_the_caller(self):
        whole = list(moments(RECIPE, INPUTS, ARGUMENTS))
        found = []
        for name, at, step, reading, layer in moments(RECIPE, INPUTS, ARGUMENTS):
            found.append((name, at, step, list(reading) if isinstance(reading, list) else reading, layer))
            if isinstance(reading, list):
                reading.clear()
        self.assertEqual(found, whole)


class TestWrongRuns(Checks, unittest.TestCase):

    def test_wrong_recipes(self):
        for thing in [*any_values(), RECIPE.stages(), [RECIPE], SRC, Run(RECIPE, {}, {}), Odd()]:
            with self.subTest(thing=thing):
                self.assertFails(Wrong, "place", 0, Run, thing, INPUTS, ARGUMENTS)
                self.assertFails(Wrong, "place", 0, Run, thing, thing, thing)

    def test_wrong_inputs(self):
        for thing in any_values():
            if not (isinstance(thing, dict) and thing == {}):
                with self.subTest(thing=thing):
                    self.assertFails(Wrong, "place", 1, Run, RECIPE, thing, ARGUMENTS)
                    self.assertFails(Wrong, "place", 1, Run, RECIPE, thing, thing)
            if not isinstance(thing, Tree):
                self.assertFails(Wrong, "place", 1, Run, RECIPE, {"src": thing}, ARGUMENTS)
                self.assertFails(Wrong, "place", 1, Run, RECIPE, {"src": SRC, "other": thing}, None)
        for thing in [[("src", SRC)], {"Src": SRC}, {"": SRC}, {"abcdefghi": SRC}, {5: SRC}, {None: SRC}, {A: SRC},
                      {"src": SRC, "a1": SRC}, {"src": SRC.rows()}, {"src": [SRC]}, {"src": Layer()}, {True: SRC},
                      {deep(tuple): SRC}, {"src": deep(list)}, set(), "src", SRC]:
            self.assertFails(Wrong, "place", 1, Run, RECIPE, thing, ARGUMENTS)

    def test_wrong_arguments(self):
        for thing in any_values():
            if not (isinstance(thing, dict) and thing == {}):
                self.assertFails(Wrong, "place", 2, Run, RECIPE, INPUTS, thing)
            if not isinstance(thing, str):
                with self.subTest(thing=thing):
                    self.assertFails(Wrong, "place", 2, Run, RECIPE, INPUTS, {"u": thing})
                    self.assertFails(Wrong, "place", 2, Run, RECIPE, {}, {"u": "x", "other": thing})
        for thing in [[("u", "x")], {"U": "x"}, {"": "x"}, {5: "x"}, {"u": "x" * 21}, {"u": b"x"}, {"u": ["x"]}, {None: "x"},
                      {"u": ("arg", "v")}, {"u": None}, {("u",): "x"}, {"abcdefghi": "x"}, {"u": deep(tuple)}]:
            self.assertFails(Wrong, "place", 2, Run, RECIPE, INPUTS, thing)

    def test_names_and_texts_that_may_be(self):
        run = Run(RECIPE, {"abcdefgh": SRC, "z": SRC}, {"abcdefgh": "x" * 20, "z": ""})
        self.assertEqual(run.tree(), Run(RECIPE, {}, {}).tree())


class TestRunStays(unittest.TestCase):

    def test_passed_dicts_are_copied(self):
        inputs, arguments = dict(INPUTS), dict(ARGUMENTS)
        run = Run(RECIPE, inputs, arguments)
        self.assertEqual([inputs, arguments], [INPUTS, ARGUMENTS])
        inputs.clear()
        arguments["u"] = "other"
        self.assertEqual(run.tree(), Run(RECIPE, INPUTS, ARGUMENTS).tree())
        self.assertEqual(run.readings("make"), Run(RECIPE, INPUTS, ARGUMENTS).readings("make"))

    def test_the_order_of_keys_means_nothing(self):
        turned = Run(RECIPE, dict(reversed(INPUTS.items())), dict(reversed(ARGUMENTS.items())))
        self.assertEqual(turned.stack(), Run(RECIPE, INPUTS, ARGUMENTS).stack())

    def test_returned_lists_are_new(self):
        run = Run(RECIPE, INPUTS, ARGUMENTS)
        for call in [run.layers, run.readings, lambda: run.layers("make"), lambda: run.readings("make"),
                     lambda: run.readings("make")[0], lambda: run.readings()[0], lambda: run.stack().layers()]:
            first = call()
            kept = list(first)
            first.append(5)
            first.reverse()
            self.assertEqual(call(), kept)
        self.assertEqual(run.tree(), Run(RECIPE, INPUTS, ARGUMENTS).tree())

    def test_equal_readings_are_two_lists(self):
        recipe = Recipe([("last", None, [("copy", "src", A, B), ("copy", "src", A, B)])])
        first, second = Run(recipe, INPUTS, {}).readings()
        self.assertEqual(first, second)
        self.assertIsNot(first, second)


if __name__ == "__main__":
    unittest.main()
