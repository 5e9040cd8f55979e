"""[52], [2] and [4]: recipes."""

import unittest

from recipelayers.errors import NoStage, TooMany, Wrong
from recipelayers.recipes import Recipe
from recipelayers.trees import Tree
from recipe_samples import STEPS, Maker
from samples import A, AA, B, Checks, Odd, any_values, deep

RUN = ("run", "cc", (("path", A), ("arg", "flag")), B)
STAGES = [("make", None, [("copy", "src", A, B), RUN, ("write", A, ("arg", "text"), 4)]),
          ("empty", "make", []),
          ("last", "base", [("copy", "make", (), AA), ("copy", "src", B, ()), ("link", A, ("arg", "flag"))])]


def with_step(step):
    return [("make", None, [("delete", A), step])]


class TestRecipe(Checks, unittest.TestCase):

    def test_stages(self):
        recipe = Recipe(STAGES)
        self.assertEqual([recipe.stages(), len(recipe)], [STAGES, 6])
        for name, start, steps in STAGES:
            self.assertEqual([recipe.start(name), recipe.steps(name)], [start, steps])
        self.assertEqual(repr(recipe), "Recipe(" + repr(STAGES) + ")")
        self.assertEqual(repr(Recipe([("a", None, [])])), "Recipe([('a', None, [])])")

    def test_inputs_and_arguments(self):
        recipe = Recipe(STAGES)
        self.assertEqual([recipe.inputs(), recipe.arguments()], [["base", "src"], ["flag", "text"]])
        for stages, inputs, arguments in [
                ([("a", None, [])], [], []), ([("a", "b", [])], ["b"], []), ([("a", "b", []), ("c", "a", [])], ["b"], []),
                ([("a", "z", [("copy", "y", A, B), ("copy", "x", (), ()), ("copy", "y", (), A)])], ["x", "y", "z"], []),
                ([("b", None, []), ("a", "b", [("copy", "b", (), ())])], [], []),
                (with_step(("run", "cc", (("arg", "z"), ("text", "t"), ("arg", "a")), A)), [], ["a", "z"]),
                (with_step(("run", "cc", (("arg", "z"), ("arg", "z"), ("path", ("q",))), A)), [], ["z"]),
                (with_step(("write", A, "arg", 4)), [], [])]:
            self.assertEqual([Recipe(stages).inputs(), Recipe(stages).arguments()], [inputs, arguments])

    def test_one_to_three_stages(self):
        self.assertFails(Wrong, "place", 0, Recipe, [])
        for many in [1, 2, 3]:
            stages = [(name, None, []) for name in "abc"[:many]]
            self.assertEqual([Recipe(stages).stages(), len(Recipe(stages))], [stages, 0])
        self.assertFails(Wrong, "place", 0, Recipe, [(name, None, []) for name in "abcd"])

    def test_eight_steps(self):
        for many in range(9):
            steps = [("write", A, str(at), 4) for at in range(many)]
            recipe = Recipe([("a", None, steps), ("b", "a", steps), ("c", "b", steps)])
            self.assertEqual([len(recipe), recipe.steps("b")], [3 * many, steps])
        self.assertFails(Wrong, "place", 0, Recipe, [("a", None, [("delete", A)] * 9)])

    def test_four_runs(self):
        for split in [(4, 0, 0), (0, 4, 0), (2, 1, 1), (0, 0, 4)]:
            stages = [(name, None, [RUN] * many) for name, many in zip("abc", split)]
            self.assertEqual(len(Recipe(stages)), 4)
        for split in [(5, 0, 0), (0, 0, 5), (2, 2, 1), (8, 8, 8)]:
            stages = [(name, None, [RUN] * many) for name, many in zip("abc", split)]
            self.assertFails(TooMany, "limit", 4, Recipe, stages)

    def test_no_stage(self):
        copy, other = ("copy", "b", A, B), ("copy", "c", A, B)
        for stages, name in [
                ([("a", "a", [])], "a"), ([("a", None, [("copy", "a", A, B)])], "a"), ([("a", "b", []), ("b", None, [])], "b"),
                ([("a", None, [copy]), ("b", None, [])], "b"), ([("a", None, []), ("b", None, [copy])], "b"),
                ([("a", None, []), ("b", "b", [])], "b"),
                # The first one, stage by stage, the start ahead of the steps.
                ([("a", "c", [copy]), ("b", "b", []), ("c", None, [])], "c"),
                ([("a", "x", [other, copy]), ("b", "b", []), ("c", None, [])], "c"),
                ([("a", "x", [("copy", "x", A, B), copy, other]), ("b", "b", []), ("c", None, [])], "b"),
                ([("a", None, []), ("b", "a", [("copy", "a", A, B), other]), ("c", "c", [])], "c"),
                # Ahead of too many runs.
                ([("a", None, [RUN] * 5), ("b", None, [copy])], "b"), ([("a", "a", [RUN] * 8)], "a")]:
            self.assertFails(NoStage, "name", name, Recipe, stages)

    def test_starts_and_sources_that_may_be(self):
        for stages in [[("a", "b", []), ("c", "b", [("copy", "b", A, B)])],
                       [("a", None, []), ("b", "a", [("copy", "a", A, B)]), ("c", "a", [("copy", "b", A, B)])],
                       [("a", "x", [("copy", "x", A, B)])]]:
            self.assertEqual(Recipe(stages).stages(), stages)

    def test_equal_if_the_stages_are(self):
        recipe = Recipe(STAGES)
        self.assertTruth(True, recipe == Recipe([(name, start, list(steps)) for name, start, steps in STAGES]))
        for other in [STAGES[:2], STAGES[:1], [*STAGES[:2], ("other", *STAGES[2][1:])],
                      [*STAGES[:2], ("last", "src", STAGES[2][2])], [*STAGES[:2], ("last", "base", STAGES[2][2][::-1])],
                      [*STAGES[:2], ("last", "base", STAGES[2][2][:2])], [("make", None, [])]]:
            self.assertTruth(False, recipe == Recipe(other))
            self.assertTruth(True, recipe != Recipe(other))
        # Equal to nothing else, also if it makes the same.
        for thing in [None, STAGES, tuple(STAGES), repr(recipe), 0, True, [], Tree(), {}]:
            self.assertTruth(False, recipe == thing)
            self.assertTruth(True, recipe != thing)

    def test_with_steps(self):
        recipe = Recipe(STAGES)
        for at, (name, start, _) in enumerate(STAGES):
            for steps in [[], [("delete", A)], [("delete", A)] * 8, [RUN]]:
                wanted = [*STAGES[:at], (name, start, steps), *STAGES[at + 1:]]
                other = recipe.with_steps(name, steps)
                self.assertEqual([other, other.stages()], [Recipe(wanted), wanted])
        self.assertEqual(recipe, Recipe(STAGES))
        self.assertIs(recipe.with_steps("empty", []).__class__, Recipe)

    def test_unknown_stages(self):
        recipe = Recipe(STAGES)
        for name in ["src", "base", "a", "flag", "lasts"]:
            for call in [recipe.start, recipe.steps, lambda told: recipe.with_steps(told, [])]:
                self.assertFails(NoStage, "name", name, call, name)

    def test_errors_of_with_steps(self):
        recipe = Recipe(STAGES)
        self.assertFails(NoStage, "name", "last", recipe.with_steps, "make", [("copy", "last", A, B)])
        self.assertFails(NoStage, "name", "make", recipe.with_steps, "make", [("copy", "make", A, B)])
        self.assertFails(NoStage, "name", "last", recipe.with_steps, "empty", [RUN] * 5 + [("copy", "last", A, B)])
        self.assertFails(NoStage, "name", "src", recipe.with_steps, "src", [RUN] * 5)
        self.assertFails(TooMany, "limit", 4, recipe.with_steps, "last", [RUN] * 4)
        self.assertEqual(len(recipe.with_steps("last", [RUN] * 3)), 6)
        self.assertEqual(len(recipe.with_steps("make", [RUN] * 4)), 7)
        self.assertFails(Wrong, "place", 1, recipe.with_steps, "src", [("delete", ())])
        self.assertFails(Wrong, "place", 1, recipe.with_steps, "src", [("delete", A)] * 9)
        self.assertFails(Wrong, "place", 0, recipe.with_steps, "Src", [("delete", A)] * 9)


class TestWrong(Checks, unittest.TestCase):

    def test_any_value(self):
        for thing in [*any_values(), [], ()]:
            with self.subTest(thing=thing):
                self.assertFails(Wrong, "place", 0, Recipe, thing)
                self.assertFails(Wrong, "place", 0, Recipe, [thing])
                self.assertFails(Wrong, "place", 0, Recipe, [STAGES[0], thing])

    def test_any_value_in_a_stage(self):
        for thing in any_values():
            name = isinstance(thing, str) and thing in ("a", "keep", "gone", "folder")
            with self.subTest(thing=thing):
                if not name:
                    self.assertFails(Wrong, "place", 0, Recipe, [(thing, None, [])])
                    if thing is not None:
                        self.assertFails(Wrong, "place", 0, Recipe, [("make", thing, [])])
                if thing.__class__ is not list or thing != []:
                    self.assertFails(Wrong, "place", 0, Recipe, [("make", None, thing)])
                self.assertFails(Wrong, "place", 0, Recipe, [("make", None, [thing])])
                self.assertFails(Wrong, "place", 0, Recipe, [("make", None, [("delete", A), thing])])

    def test_any_value_in_a_step(self):
        for step in STEPS:
            for at in range(len(step)):
                for thing in [None, True, [], {}, Odd(), deep(tuple), ("a", 5), ("a",) * 5, "x" * 21, 8, -1, object()]:
                    other = (*step[:at], thing, *step[at + 1:])
                    with self.subTest(step=other):
                        self.assertFails(Wrong, "place", 0, Recipe, with_step(other))
                        self.assertFails(Wrong, "place", 1, Recipe(STAGES).with_steps, "make", [other])

    def test_other_forms(self):
        delete = ("delete", A)
        for stages in [tuple(STAGES), iter(STAGES), {0: STAGES[0]}, [list(STAGES[0])], [STAGES], [STAGES[0][:2]],
                       [(*STAGES[0], None)], [("make", None, (delete,))], [("make", None, ())], [("make", None, delete)],
                       [("make", None, [list(delete)])], [("make", None, [[delete]])], [("make", None, None)],
                       [("make", (), [])], [("make", "", [])], [("make", "Base", [])], [("make", ["base"], [])],
                       [("", None, [])], [("abcdefghi", None, [])], [(None, None, [])], [(b"make", None, [])],
                       [("make", None, []), ("make", None, [])], [("make", None, []), ("a", None, []), ("make", None, [])],
                       [("make", False, [])], Recipe(STAGES), [Recipe(STAGES)], [("make", Tree(), [])],
                       [("make", None, [("write", A, "x", True)])], [("make", None, [("delete", ("a",) * 5)])],
                       [("make", None, [("delete", ())])], [("make", None, [("delete", ("a",) * 19000)])],
                       [("make", None, [delete] * 9)], [("make", None, [delete] * 19000)], STAGES * 6000]:
            with self.subTest(stages=stages):
                self.assertFails(Wrong, "place", 0, Recipe, stages)

    def test_wrong_ahead_of_all(self):
        for bad in [("delete", ()), None, ("run", "cc", [], A)]:
            self.assertFails(Wrong, "place", 0, Recipe, [("a", "a", []), ("b", None, [bad])])
            self.assertFails(Wrong, "place", 0, Recipe, [("a", None, [RUN] * 5 + [bad])])
        self.assertFails(Wrong, "place", 0, Recipe, [("a", "a", []), ("a", "a", [])])

    def test_wrong_names_and_steps(self):
        recipe = Recipe(STAGES)
        for thing in any_values():
            name = isinstance(thing, str) and thing in ("a", "keep", "gone", "folder")
            with self.subTest(thing=thing):
                if name:
                    self.assertFails(NoStage, "name", thing, recipe.with_steps, thing, [])
                else:
                    self.assertFails(Wrong, "place", 0, recipe.with_steps, thing, [])
                    self.assertFails(Wrong, "place", 0, recipe.with_steps, thing, thing)
                self.assertFails(Wrong, "place", 1, recipe.with_steps, "make", thing)
                self.assertFails(Wrong, "place", 1, recipe.with_steps, "nothere", thing)
                self.assertFails(Wrong, "place", 1, recipe.with_steps, "make", [thing])
        self.assertFails(Wrong, "place", 1, recipe.with_steps, "make", ())
        self.assertFails(Wrong, "place", 1, recipe.with_steps, "make", (("delete", A),))


class TestRecipeStays(unittest.TestCase):

    def test_passed_lists_are_copied(self):
        stages = [(name, start, list(steps)) for name, start, steps in STAGES]
        recipe = Recipe(stages)
        stages[0][2].clear()
        stages.pop()
        self.assertEqual(recipe, Recipe(STAGES))
        steps = [("delete", A)]
        other = recipe.with_steps("empty", steps)
        steps.append(None)
        self.assertEqual(other.steps("empty"), [("delete", A)])

    def test_arguments_stay(self):
        stages = [(name, start, list(steps)) for name, start, steps in STAGES]
        Recipe(stages)
        self.assertEqual(stages, STAGES)
        bad = [("a", "a", [("delete", A)])]
        with self.assertRaises(NoStage):
            Recipe(bad)
        self.assertEqual(bad, [("a", "a", [("delete", A)])])

    def test_returned_lists_are_new(self):
        recipe = Recipe(STAGES)
        for call in [recipe.stages, lambda: recipe.steps("make"), recipe.inputs, recipe.arguments,
                     lambda: recipe.steps("empty"), lambda: recipe.stages()[0][2]]:
            first = call()
            kept = list(first)
            first.append(5)
            first.reverse()
            self.assertEqual(call(), kept)
        self.assertEqual([recipe, len(recipe)], [Recipe(STAGES), 6])

    def test_what_is_returned_may_be_passed_in(self):
        maker = Maker(52)
        for _ in range(200):
            recipe = maker.recipe()
            self.assertEqual(Recipe(recipe.stages()), recipe)
            self.assertEqual(len(recipe), sum(len(steps) for _, _, steps in recipe.stages()))
            for name, start, steps in recipe.stages():
                self.assertEqual(recipe.with_steps(name, recipe.steps(name)), recipe)


if __name__ == "__main__":
    unittest.main()
