"""[55], [3] and [10]: caches."""

import unittest

from recipelayers.caches import Cache
from recipelayers.recipes import Recipe
from recipelayers.runs import Run, moments
from recipelayers.trees import Tree
from recipe_samples import Maker
from samples import A, AA, AB, B, FILE, LINK, SEVEN, Checks, Odd, any_values, check_example
from test_runs import EXAMPLE as RUN_EXAMPLE

EXAMPLE = RUN_EXAMPLE + """
>>> from recipelayers.caches import Cache
>>> cache = Cache()
>>> [cache.fill(run), cache.would(recipe, {"src": src}, {"flag": "slow"})]
[4, [('make', 0, True), ('make', 1, False), ('last', 0, False), ('last', 1, False)]]
"""

SRC = Tree([(A, SEVEN), (AA, FILE), (AB, LINK)])
COPY, WRITE, RIGHTS = ("copy", "src", A, B), ("write", A, ("arg", "u"), 4), ("rights", A, 6)
RUN = ("run", "cc", (("path", A), ("path", B), ("arg", "u")), ("c",))
RECIPE = Recipe([("make", None, [COPY, WRITE, RUN]), ("last", "make", [RIGHTS, ("copy", "make", (), ())])])
INPUTS, ARGUMENTS = {"src": SRC}, {"u": "one"}


def pairs(recipe, inputs, arguments):
    """The tuples (name, at, pair) of a run."""
    return [(name, at, (step, reading)) for name, at, step, reading, _ in moments(recipe, inputs, arguments)]


class TestCache(Checks, unittest.TestCase):

    def test_example(self):
        check_example(self, EXAMPLE)

    def test_empty(self):
        cache = Cache()
        self.assertEqual([len(cache), cache.would(RECIPE, INPUTS, ARGUMENTS)],
                         [0, [("make", 0, False), ("make", 1, False), ("make", 2, False), ("last", 0, False), ("last", 1, False)]])
        for _, _, pair in pairs(RECIPE, INPUTS, ARGUMENTS):
            self.assertTruth(False, pair in cache)
        self.assertEqual(len(cache), 0)

    def test_fill(self):
        cache = Cache()
        self.assertEqual([cache.fill(Run(RECIPE, INPUTS, ARGUMENTS)), len(cache)], [5, 5])
        for _, _, pair in pairs(RECIPE, INPUTS, ARGUMENTS):
            self.assertTruth(True, pair in cache)
        self.assertEqual([cache.fill(Run(RECIPE, INPUTS, ARGUMENTS)), len(cache)], [0, 5])
        # With another text, the step that has it, the run that reads it and the copy of both are new.
        self.assertEqual([cache.fill(Run(RECIPE, INPUTS, {"u": "two"})), len(cache)], [4, 9])
        self.assertEqual([cache.fill(Run(Recipe([("last", None, [])]), {}, {})), len(cache)], [0, 9])

    def test_steps_that_stand_twice(self):
        steps = [("delete", A), ("write", A, "x", 4), RIGHTS, ("delete", A), ("write", A, "x", 4), RIGHTS, RIGHTS]
        recipe = Recipe([("last", None, steps), ("more", "last", steps[:2])])
        cache = Cache()
        self.assertEqual([cache.fill(Run(recipe, {}, {})), len(cache)], [3, 3])
        other = Cache()
        tree, made = other.make(recipe, {}, {})
        self.assertEqual([tree, made, len(other)], [Run(recipe, {}, {}).tree(), [("last", 0), ("last", 1), ("last", 2)], 3])
        third = Cache()
        self.assertEqual(third.would(recipe, {}, {}), [(name, at, False) for name, at, _ in pairs(recipe, {}, {})])

    def test_another_reading_of_the_same_step(self):
        # The second of two equal steps reads what the first one and the write between them left.
        steps = [RIGHTS, ("write", A, "x", 4), RIGHTS, ("link", A, "x"), RIGHTS]
        cache = Cache()
        self.assertEqual(cache.make(Recipe([("last", None, steps)]), {}, {})[1], [("last", at) for at in range(4)])
        self.assertEqual(len(cache), 4)

    def test_another_recipe(self):
        cache = Cache()
        cache.fill(Run(RECIPE, INPUTS, ARGUMENTS))
        # Steps and readings in common, though the stages are others and a text stands in place of an argument.
        other = Recipe([("x", "src", [("write", A, "one", 4), COPY, RIGHTS]), ("y", "src", [RIGHTS, ("write", A, "two", 4)])])
        self.assertEqual(cache.would(other, INPUTS, {}),
                         [("x", 0, True), ("x", 1, True), ("x", 2, True), ("y", 0, False), ("y", 1, False)])
        self.assertEqual(cache.would(other, {"src": Tree([*SRC.rows()])}, {"u": "two"})[0], ("x", 0, True))

    def test_would_is_what_is_kept(self):
        maker = Maker(55)
        for _ in range(150):
            cache = Cache()
            kept = []
            for _ in range(3):
                recipe, inputs, arguments = maker.recipe(3), maker.inputs(), maker.arguments()
                told = pairs(recipe, inputs, arguments)
                before = len(cache)
                self.assertEqual(cache.would(recipe, inputs, arguments), [(name, at, pair in kept) for name, at, pair in told])
                self.assertEqual(len(cache), before)
                if maker.random.random() < 0.5:
                    new = cache.fill(Run(recipe, inputs, arguments))
                    found = [pair for at, (_, _, pair) in enumerate(told)
                             if pair not in kept and pair not in [some for _, _, some in told[:at]]]
                    self.assertEqual(new, len(found))
                    kept += found
                else:
                    tree, made = cache.make(recipe, inputs, arguments)
                    wanted = []
                    for name, at, pair in told:
                        if pair not in kept:
                            wanted.append((name, at))
                            kept.append(pair)
                    self.assertEqual([tree, made], [Run(recipe, inputs, arguments).tree(), wanted])
                self.assertEqual(len(cache), len(kept))
                self.assertTrue(all(pair in cache for pair in kept))

    def test_would_keeps_nothing(self):
        cache = Cache()
        for _ in range(2):
            self.assertEqual({hit for _, _, hit in cache.would(RECIPE, INPUTS, ARGUMENTS)}, {False})
            self.assertEqual(len(cache), 0)
        cache.make(RECIPE, INPUTS, ARGUMENTS)
        self.assertEqual([hit for _, _, hit in cache.would(RECIPE, INPUTS, ARGUMENTS)], [True] * 5)
        self.assertEqual({hit.__class__ for _, _, hit in cache.would(RECIPE, INPUTS, {})}, {bool})

    def test_make_again(self):
        cache = Cache()
        tree, made = cache.make(RECIPE, INPUTS, ARGUMENTS)
        self.assertEqual(made, [("make", 0), ("make", 1), ("make", 2), ("last", 0), ("last", 1)])
        self.assertEqual(cache.make(RECIPE, INPUTS, ARGUMENTS), (tree, []))
        self.assertEqual(cache.make(RECIPE, INPUTS, {"u": "two"})[1],
                         [("make", 1), ("make", 2), ("last", 0), ("last", 1)])
        self.assertEqual(cache.make(Recipe([("last", "src", [])]), INPUTS, {}), (SRC, []))


class Faked:
    """Shown as another value, so that it shows where that is taken for the value itself."""

    def __init__(self, thing):
        self.text = repr(thing)

    def __repr__(self):
        return self.text


class TestIn(Checks, unittest.TestCase):

    def setUp(self):
        self.cache = Cache()
        self.cache.fill(Run(RECIPE, INPUTS, ARGUMENTS))
        self.pairs = [pair for _, _, pair in pairs(RECIPE, INPUTS, ARGUMENTS)]

    def test_near_pairs(self):
        near = [(WRITE, None), (("write", A, "one", 5), None), (("write", B, "one", 4), None), (("write", A, "one", 4), []),
                (("write", A, "one", 4), ()), (RIGHTS, None), (RIGHTS, ("folder",)), (RIGHTS, ("file", "two")),
                (RIGHTS, ("file", "one", 4)), (RIGHTS, ["file", "one"]), (("rights", A, 5), ("file", "one")),
                (COPY, []), (COPY, None), (COPY, tuple(self.pairs[0][1])), (COPY, self.pairs[0][1][:2]),
                (COPY, self.pairs[0][1][::-1]), (COPY, [list(row) for row in self.pairs[0][1]]),
                (("copy", "base", A, B), self.pairs[0][1]), (COPY, [(path, Odd()) for path, _ in self.pairs[0][1]])]
        for thing in near:
            with self.subTest(thing=thing):
                self.assertTruth(False, thing in self.cache)
        self.assertTruth(True, (COPY, list(self.pairs[0][1])) in self.cache)
        self.assertTruth(True, (RIGHTS, ("file", "one")) in self.cache)

    def test_truths_for_numbers(self):
        recipe = Recipe([("last", None, [("folder", A, 1), ("folder", B, 0)]),
                         ("more", "last", [("copy", "last", (), AA)])])
        cache = Cache()
        cache.fill(Run(recipe, {}, {}))
        rows = [(A, ("folder", 1)), (B, ("folder", 0))]
        for thing, wanted in [((("folder", A, 1), None), True), ((("folder", A, True), None), False),
                              ((("folder", B, False), None), False), ((("copy", "last", (), AA), rows), True),
                              ((("copy", "last", (), AA), [(A, ("folder", True)), rows[1]]), False)]:
            self.assertTruth(wanted, thing in cache)

    def test_any_value(self):
        for thing in [*any_values(), [], ()]:
            with self.subTest(thing=thing):
                self.assertTruth(False, thing in self.cache)
                self.assertTruth(False, (thing, thing) in self.cache)
                for step, reading in self.pairs:
                    self.assertTruth(False, (thing, reading) in self.cache)
                    same = repr(thing) == repr(reading)
                    self.assertTruth(same, (step, thing) in self.cache)
                    self.assertTruth(False, (step, [thing]) in self.cache)
                    self.assertTruth(False, (step, (thing,)) in self.cache)
                    self.assertTruth(False, (step, ("file", thing)) in self.cache)

    def test_what_is_only_shown_as_a_pair(self):
        for step, reading in self.pairs:
            self.assertTruth(True, (step, reading) in self.cache)
            for thing in [Faked((step, reading)), (Faked(step), reading), (step, Faked(reading)),
                          ((step[0], Faked(step[1]), *step[2:]), reading), ((Faked(step[0]), *step[1:]), reading)]:
                self.assertEqual(repr(thing), repr((step, reading)))
                self.assertTruth(False, thing in self.cache)
        rows = self.pairs[0][1]
        for other in [[(Faked(path), node) for path, node in rows], [(path, Faked(node)) for path, node in rows],
                      [Faked(row) for row in rows], [(path, (node[0], Faked(node[1]), *node[2:])) for path, node in rows]]:
            self.assertTruth(False, (COPY, other) in self.cache)
        for other in [("file", Faked("one")), (Faked("file"), "one")]:
            self.assertTruth(False, (RIGHTS, other) in self.cache)

    def test_readings_of_rights(self):
        steps = [RIGHTS, ("folder", A, 5), RIGHTS, ("run", "cc", (("path", B),), A), RIGHTS]
        cache = Cache()
        self.assertEqual(cache.fill(Run(Recipe([("last", None, steps)]), {}, {})), 5)
        made = ("made", "cc", (None,))
        for reading, wanted in [(None, True), (("folder",), True), (("file", made), True), (("file", "cc"), False),
                                (["folder"], False), (("folder", 5), False), (("file", made, 5), False), ((), False)]:
            self.assertTruth(wanted, (RIGHTS, reading) in cache)

    def test_other_forms(self):
        for step, reading in self.pairs:
            for thing in [[step, reading], (step,), (step, reading, None), ((step, reading),), [(step, reading)],
                          (list(step), reading), (reading, step), {step: reading}, step, reading]:
                self.assertTruth(False, thing in self.cache)


class TestCacheStays(unittest.TestCase):

    def test_arguments_stay(self):
        inputs, arguments, cache = dict(INPUTS), dict(ARGUMENTS), Cache()
        run = Run(RECIPE, inputs, arguments)
        cache.fill(run)
        cache.would(RECIPE, inputs, arguments)
        cache.make(RECIPE, inputs, arguments)
        self.assertEqual([inputs, arguments, RECIPE], [INPUTS, ARGUMENTS, Recipe(RECIPE.stages())])
        self.assertEqual(run.readings("make"), Run(RECIPE, INPUTS, ARGUMENTS).readings("make"))

    def test_what_is_passed_or_returned_and_changed_afterwards(self):
        cache = Cache()
        run = Run(RECIPE, INPUTS, ARGUMENTS)
        cache.fill(run)
        run.readings("make")[0].clear()
        hits = cache.would(RECIPE, INPUTS, ARGUMENTS)
        kept = list(hits)
        hits.clear()
        made = cache.make(RECIPE, INPUTS, ARGUMENTS)[1]
        made.append(5)
        self.assertEqual([cache.would(RECIPE, INPUTS, ARGUMENTS), len(cache)], [kept, 5])
        self.assertEqual(cache.make(RECIPE, INPUTS, ARGUMENTS)[1], [])

    def test_two_caches(self):
        one, other = Cache(), Cache()
        one.fill(Run(RECIPE, INPUTS, ARGUMENTS))
        self.assertEqual([len(one), len(other)], [5, 0])


if __name__ == "__main__":
    unittest.main()
