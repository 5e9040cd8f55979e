"""[83]: recipes that continue one recipe, merged into one."""

import unittest
from itertools import product

from recipelayers.alike import compare
from recipelayers.errors import LayerError, TooMany, Unlike
from recipelayers.merges import merged
from recipelayers.recipes import Recipe
from recipelayers.runs import Run
from recipe_samples import Maker
from samples import A, AA, B, Checks, check_example
from test_reorderings import many_leaves

EXAMPLE = """
>>> from recipelayers.recipes import Recipe
>>> from recipelayers.merges import merged
>>> base = Recipe([("last", "src", [("folder", ("a",), 5)])])
>>> one = Recipe([("last", "src", [("folder", ("a",), 5), ("write", ("a", "x"), "one", 4)])])
>>> other = Recipe([("last", "src", [("folder", ("a",), 5), ("clear", ("a",))])])
>>> [merged(base, one, base)[1] == one, merged(base, one, other)]
[True, ('parted', {}, {}, ('a', 'x'))]
"""

C = ("c",)
BY = ("by", "src", [("delete", A)])
AHEAD = [("folder", A, 5), ("link", B, "x")]
RUN = ("run", "cc", (), ("r",))


def made(*steps, start="by", name="last", before=BY):
    return Recipe([before, (name, start, list(steps))])


BASE = made(*AHEAD)


def more(*steps):
    """A Recipe that continues BASE."""
    return made(*AHEAD, *steps)


class TestMerged(Checks, unittest.TestCase):

    def check(self, base, one, other, limit=2000):
        """What is merged, or what parts both, as compare tells it of the two orders."""
        name, _, steps = base.stages()[-1]
        first, second = [recipe.stages()[-1][2][len(steps):] for recipe in [one, other]]
        former, latter = base.with_steps(name, steps + first + second), base.with_steps(name, steps + second + first)
        told = merged(base, one, other, limit=limit)
        compared = compare(former, latter, limit=limit)
        self.assertEqual(told, ("merged", former) if compared[0] == "alike" else compared)
        if told[0] == "parted":
            kind, inputs, arguments, path = told
            trees = [Run(recipe, inputs, arguments).tree() for recipe in [former, latter]]
            self.assertNotEqual(trees[0].node(path), trees[1].node(path))
        return told

    def test_example(self):
        check_example(self, EXAMPLE)

    def test_further_steps_of_one_of_both_and_of_neither(self):
        link, delete = ("link", C, "x"), ("delete", AA)
        for one, other, whole in [(BASE, BASE, BASE), (more(link), BASE, more(link)), (BASE, more(link), more(link)),
                                  (more(link), more(delete), more(link, delete)), (more(delete), more(link), more(delete, link)),
                                  (more(link), more(link), more(link, link)),
                                  (more(link, delete), more(delete, link), more(link, delete, delete, link))]:
            told = self.check(BASE, one, other)
            self.assertEqual([told[0].__class__, told], [str, ("merged", whole)])

    def test_a_base_without_steps(self):
        base = made()
        self.assertEqual(self.check(base, base, base), ("merged", base))
        self.assertEqual(self.check(base, made(RUN), made(("link", C, "x"))), ("merged", made(RUN, ("link", C, "x"))))

    def test_what_is_alike_and_what_is_parted(self):
        for one, other, alike in [
                (("write", AA, "x", 4), ("clear", A), False), (("write", AA, "x", 4), ("write", AA, "x", 4), True),
                (("write", AA, "x", 4), ("write", AA, "y", 4), False), (("rights", AA, 5), ("write", C, "x", 4), True),
                (("rights", C, 5), ("write", C, "x", 4), False), (("run", "cc", (("path", C),), AA), ("delete", C), False),
                (("run", "cc", (("path", C),), AA), ("delete", B), True), (("copy", "src", A, C), ("copy", "src", A, C), True),
                (("copy", "src", A, C), ("copy", "other", A, C), False), (("write", C, ("arg", "u"), 4), ("delete", C), False)]:
            for first, second in [(one, other), (other, one)]:
                told = self.check(BASE, more(first), more(second))
                self.assertEqual(told[0], "merged" if alike else "parted")
                if alike:
                    self.assertEqual(told[1], more(first, second))

    def test_recipes_that_do_not_continue(self):
        link = ("link", C, "x")
        others = [
            # A stage more or less, another name, another start, other earlier stages.
            Recipe([BY, ("more", None, []), ("last", "by", AHEAD)]), Recipe([BY, ("last", "by", AHEAD), ("more", "last", [])]),
            Recipe([("last", "by", AHEAD)]), made(*AHEAD, name="end"), made(*AHEAD, start="src"), made(*AHEAD, start=None),
            made(*AHEAD, before=("by", "src", [])), made(*AHEAD, before=("by", None, BY[2])),
            made(*AHEAD, before=("by", "src", [*BY[2], link])), made(*AHEAD, before=("to", "src", BY[2])),
            # Other steps ahead, fewer, or the same ones in another order.
            made(), made(AHEAD[0]), made(AHEAD[1]), made(*AHEAD[::-1]), made(AHEAD[0], link), made(link, *AHEAD),
            made(AHEAD[0], ("link", B, "y")), made(("folder", A, 6), AHEAD[1]), made(*AHEAD[::-1], *AHEAD),
        ]
        for recipe in others:
            with self.subTest(recipe=recipe):
                for one, other in [(recipe, BASE), (BASE, recipe), (recipe, recipe), (more(link), recipe), (recipe, more(link))]:
                    self.assert_unlike(BASE, one, other)
        # A stage that is not the last one must not go on.
        self.assert_unlike(made(), made(before=("by", "src", [*BY[2], link])), made())

    def assert_unlike(self, base, one, other, limit=2000):
        with self.assertRaises(LayerError) as caught:
            merged(base, one, other, limit=limit)
        self.assertIs(caught.exception.__class__, Unlike)

    def test_eight_steps_and_nine(self):
        links = [("link", ("x" + letter,), "x") for letter in "abcdefghij"]
        self.assertEqual(self.check(BASE, more(*links[:3]), more(*links[3:6])), ("merged", more(*links[:6])))
        for one, other in [(links[:3], links[3:7]), (links[:6], links[6:7]), (links[:1], links[:6]), (links[:6], links[:6])]:
            self.assertFails(TooMany, "limit", 8, merged, BASE, more(*one), more(*other))
        eight = made(*links[:8])
        self.assertEqual(merged(eight, eight, eight), ("merged", eight))
        # The last stage alone is counted.
        before = ("by", "src", links[:8])
        self.assertEqual(merged(made(before=before), made(links[8], before=before), made(links[9], before=before)),
                         ("merged", made(*links[8:], before=before)))

    def test_four_runs_and_five(self):
        self.assertEqual(self.check(BASE, more(RUN, RUN), more(RUN, RUN)), ("merged", more(RUN, RUN, RUN, RUN)))
        self.assertFails(TooMany, "limit", 4, merged, BASE, more(RUN, RUN, RUN), more(RUN, RUN))
        base = made(RUN, RUN, before=("by", None, [RUN]))
        one = made(RUN, RUN, RUN, before=("by", None, [RUN]))
        self.assertEqual(self.check(base, one, base), ("merged", one))
        self.assertFails(TooMany, "limit", 4, merged, base, one, one)

    def test_the_order_of_the_errors(self):
        reads = tuple(("path", (*path, "x", "y")) for path in [A, B, C])
        run, delete = ("run", "cc", reads, C), ("delete", A)
        many = more(run, run, run, delete)
        # Of a recipe that does not continue base ahead of the steps, of these ahead of the runs, of these ahead of the limit.
        self.assert_unlike(BASE, many, made(*many.steps("last")[1:]), limit=1)
        self.assert_unlike(BASE, made(), many, limit=1)
        self.assertFails(TooMany, "limit", 8, lambda: merged(BASE, many, many, limit=1))
        self.assertFails(TooMany, "limit", 4, lambda: merged(BASE, more(run, run, run), more(run, run), limit=1))
        self.assertFails(TooMany, "limit", 1, lambda: merged(BASE, more(run, run), more(run, run), limit=1))

    def test_limits(self):
        one, other = more(("rights", AA, 5)), more(("copy", "src", A, C))
        former = more(("rights", AA, 5), ("copy", "src", A, C))
        latter = more(("copy", "src", A, C), ("rights", AA, 5))
        many = many_leaves(former, latter)
        self.assertEqual(merged(BASE, one, other, limit=many), ("merged", former))
        for limit in [1, many - 1]:
            self.assertFails(TooMany, "limit", limit, lambda: merged(BASE, one, other, limit=limit))
        # The usual one is 2000.
        first = ("one", "base", [("copy", "src", (), ("x" + name,)) for name in "abcdefgh"])
        second = ("two", "one", [("copy", "one", (), ("y" + name,)) for name in "abcdefgh"])
        base = Recipe([first, second, ("last", "two", [("copy", "two", (), ("z" + name,)) for name in "abc"])])
        many = many_leaves(base, base)
        self.assertTrue(2000 < many < 4000)
        self.assertFails(TooMany, "limit", 2000, merged, base, base, base)
        self.assertEqual(merged(base, base, base, limit=many), ("merged", base))

    def test_the_limit_is_passed_by_keyword(self):
        with self.assertRaises(TypeError):
            merged(BASE, BASE, BASE, 2000)

    def test_many(self):
        maker = Maker(84)
        found = []
        for _ in range(300):
            base = maker.recipe(2, stages=2)
            name, _, steps = base.stages()[-1]
            try:
                one, other = [base.with_steps(name, steps + [maker.step(["in", "out"]) for _ in range(maker.random.randint(0, 2))])
                              for _ in range(2)]
                found.append(self.check(base, one, other, limit=800)[0])
            except TooMany:
                continue
        self.assertGreater(min(found.count("merged"), found.count("parted")), 50)

    def test_arguments_stay_and_results_are_new(self):
        one, other = more(("link", C, "x"), ("rights", A, 6)), more(("link", C, ("arg", "u")))
        for first, second in product([one, other, BASE], repeat=2):
            told = merged(BASE, first, second)
            if told[0] == "parted":
                again = merged(BASE, first, second)
                told[1].clear()
                told[2].clear()
                self.assertEqual(merged(BASE, first, second), again)
        self.assertEqual([one, other, BASE], [more(("link", C, "x"), ("rights", A, 6)), more(("link", C, ("arg", "u"))), made(*AHEAD)])


if __name__ == "__main__":
    unittest.main()
