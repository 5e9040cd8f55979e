"""[73], [13] and [72]: which steps tell what a place brings, and whether the end does."""

import unittest

from recipelayers.errors import TooMany
from recipelayers.recipes import Recipe
from recipelayers.runs import Run
from recipelayers.secrets import telling
from recipelayers.stale import shown, stale
from recipelayers.trees import Tree
from recipe_samples import ANSWERS, Maker, Open, described, model_node
from samples import A, AA, AB, B, FILE, FIVE, LINK, OTHER_FILE, SEVEN, Checks, check_example
from test_stale import (AAA, ALL, ARG, C, CONTENT, brought, last, layers_of, may_bring, model_fresh, model_look,
                        model_relevant_for, texted)

EXAMPLE = """
>>> from recipelayers.recipes import Recipe
>>> from recipelayers.trees import Tree
>>> from recipelayers.secrets import telling
>>> steps = [("copy", "keys", ("key",), ("key",)), ("delete", ("key",))]
>>> keys = {"keys": Tree([(("key",), ("file", "s3", 4))])}
>>> place = ("content", "keys", ("key",))
>>> telling(Recipe([("last", None, steps)]), keys, {}, place)
([('last', 0)], False)
"""

SRC = Tree([(A, FIVE), (AA, FILE), (AB, SEVEN), (("a", "b", "c"), OTHER_FILE), (B, LINK), (C, ("file", "y", 6))])


def end_leaves(recipe, inputs, arguments, place):
    """The tuples (path, answers, node, now) of all leaves that are looked at for the end, in the words of [73]."""
    named = [place] if place[0] != ARG else []
    brings = [some for some in named if may_bring(inputs, some, some[2])]
    free = [place[1]] if place[0] == ARG else []
    known = {name: arguments.get(name, "") for name in recipe.arguments() if name not in free}
    plain = Recipe([(name, start, [texted(step, known) for step in steps]) for name, start, steps in recipe.stages()])
    name, _, steps = recipe.stages()[-1]
    paths = model_relevant_for(recipe, name, inputs, named)
    paths = (paths | {(*path, model_fresh(recipe, inputs, named)) for path in paths}) - {()}
    tree = Run(recipe, inputs, arguments).tree()
    return [(path, answers, node, tree.node(path)) for path in sorted(paths)
            for answers, node in leaves_at(plain, name, len(steps), path, inputs, brings, {})]


def leaves_at(recipe, name, many, path, inputs, brings, answers):
    """The tuples (answers, node) of the leaves of the walk at a path."""
    def shows(source, asked):
        if any(place[0] == ALL and place[1] == source and asked[:len(place[2])] == place[2] for place in brings):
            if (source, asked) not in answers:
                raise Open(source, asked)
            return described(answers[(source, asked)], ("of", source, asked))
        node = inputs.get(source, Tree()).node(asked)
        return ("file", ("of", source, asked), node[2]) if (CONTENT, source, asked) in brings else node

    try:
        return [(answers, model_node(recipe, name, many, path, shows))]
    except Open as error:
        return [leaf for answer in ANSWERS
                for leaf in leaves_at(recipe, name, many, path, inputs, brings, {**answers, error.args: answer})]


def values(inputs, arguments, place, answers):
    """Inputs and arguments with new values at a place alone, which give these answers, with all rights."""
    if place[0] == ARG:
        return [(inputs, {**arguments, place[1]: text}) for text in ["new", "newer"]]
    kind, name, top = place
    rows = inputs.get(name, Tree()).rows()
    if kind == CONTENT:
        return [({**inputs, name: Tree([(path, ("file", "new", node[2]) if path == top else node) for path, node in rows])},
                 arguments)]
    kept = [(path, node) for path, node in rows if path[:len(top)] != top]
    found = []
    for rights in range(8):
        nodes = {"file": ("file", "new", rights), "link": ("link", "new"), "folder": ("folder", rights)}
        more = [(path, nodes[answer]) for (_, path), answer in answers.items() if answer != "none"]
        found.append(({**inputs, name: Tree(kept + more)}, arguments))
    return found


class TestTelling(Checks, unittest.TestCase):

    def check(self, recipe, inputs, arguments, place, limit=400):
        """The steps are the stale ones, values show that they and the end may be others, and [73] is what is said."""
        told = telling(recipe, inputs, arguments, place, limit=limit)
        self.assertIs(told.__class__, tuple)
        steps, end = told
        self.assertEqual(steps, stale(recipe, inputs, arguments, [place], limit=limit))
        now = layers_of(recipe, inputs, arguments)
        for name, at in steps:
            others = layers_of(recipe, *shown(recipe, inputs, arguments, [place], name, at, limit=limit))
            self.assertNotEqual(others[(name, at)], now[(name, at)])
        leaves = end_leaves(recipe, inputs, arguments, place)
        parting = [answers for _, answers, node, old in leaves if node != old]
        self.assertTruth(len(parting) > 0, end)
        if end:
            tree = Run(recipe, inputs, arguments).tree()
            self.assertTrue(any(Run(recipe, *some).tree() != tree for answers in parting
                                for some in values(inputs, arguments, place, answers)))
        return told

    def check_steps(self, recipe, inputs, place, steps, end, arguments=None):
        """Of the last stage, just these steps tell of a place, and the end does or does not."""
        told, ends = self.check(recipe, inputs, arguments or {}, place)
        self.assertEqual([[at for name, at in told if name == "last"], ends], [steps, end])

    def test_example(self):
        check_example(self, EXAMPLE)

    def test_a_secret_that_goes_later(self):
        copy = ("copy", "src", A, A)
        for step, end in [(("delete", A), False), (("delete", AA), False), (("clear", A), False), (("delete", AB), True),
                          (("clear", AA), True), (("write", AA, "x", 4), False), (("link", AA, "x"), False),
                          (("write", A, "x", 4), False), (("folder", AA, 5), False), (("folder", A, 5), True),
                          (("run", "cc", (), AA), False), (("rights", AA, 7), True), (("copy", "other", (), A), False),
                          (("copy", "other", AA, AA), True), (("copy", "other", (), AA), False)]:
            for more in [[], [("delete", B)], [("link", ("z",), "x")]]:
                told = [0, 1] if step[0] == "rights" else [0]
                self.check_steps(last(copy, step, *more, start=None), {"src": SRC}, (CONTENT, "src", AA), told, end)

    def test_a_secret_that_is_copied_elsewhere(self):
        inputs, place = {"src": SRC}, (CONTENT, "src", AA)
        by = ("by", None, [("copy", "src", A, B), ("delete", ("b", "b"))])
        for steps, told, end in [
                ([("copy", "by", ("b", "a"), C), ("delete", C)], [0], False),
                ([("copy", "by", ("b", "a"), C), ("delete", B)], [0], True),
                ([("copy", "by", B, C)], [0], True), ([("copy", "by", ("b", "b"), C)], [], False), ([], [], False),
                ([("copy", "by", (), ()), ("run", "cc", (("path", ("b", "a")),), C), ("delete", B)], [0, 1], True),
                ([("copy", "by", (), ()), ("run", "cc", (("path", ("b", "a")),), C), ("delete", B), ("rights", C, 7), ("delete", C)],
                 [0, 1, 3], False)]:
            recipe = Recipe([by, ("last", None, steps)])
            self.assertEqual(self.check(recipe, inputs, {}, place)[0][0], ("by", 0))
            self.check_steps(recipe, inputs, place, told, end)

    def test_an_input_that_the_last_stage_starts_with(self):
        for steps, told, end in [([], [], True), ([("delete", AA)], [], False), ([("rights", AA, 7)], [0], True),
                                 ([("rights", AA, 7), ("delete", A)], [0], False), ([("delete", A), ("rights", AA, 7)], [], False),
                                 ([("run", "cc", (("path", AA),), C), ("delete", AA)], [0], True),
                                 ([("run", "cc", (("path", AA),), AA)], [0], True),
                                 ([("run", "cc", (("path", AA),), AA), ("link", AA, "x")], [0], False)]:
            self.check_steps(last(*steps), {"src": SRC}, (CONTENT, "src", AA), told, end)
            self.check_steps(last(*steps), {"src": SRC}, (ALL, "src", AA), told, end)
            self.check_steps(last(*steps, start="other"), {"src": SRC}, (CONTENT, "src", AA), [], False)

    def test_an_input_that_only_an_earlier_stage_reads(self):
        by = ("by", "src", [("rights", AA, 7), ("run", "cc", (("path", AA),), C)])
        for last_stage, end in [(("last", None, []), False), (("last", "other", [("delete", A)]), False), (("last", "by", []), True),
                                (("last", "by", [("delete", A)]), True), (("last", "by", [("delete", A), ("delete", C)]), False)]:
            recipe = Recipe([by, last_stage])
            self.assertEqual(self.check(recipe, {"src": SRC}, {}, (CONTENT, "src", AA)), ([("by", 0), ("by", 1)], end))

    def test_arguments(self):
        write, run, copy = ("write", A, ("arg", "u"), 4), ("run", "cc", (("arg", "u"), ("path", A)), B), ("link", C, ("arg", "v"))
        for arguments in [{}, {"u": "0", "v": "0"}, {"w": "1"}]:
            self.check_steps(last(write, copy), {"src": SRC}, (ARG, "u"), [0], True, arguments)
            self.check_steps(last(write, copy), {"src": SRC}, (ARG, "v"), [1], True, arguments)
            self.check_steps(last(write, copy), {"src": SRC}, (ARG, "w"), [], False, arguments)
            self.check_steps(last(write, ("delete", A), copy), {"src": SRC}, (ARG, "u"), [0], False, arguments)
            self.check_steps(last(write, run, ("delete", A)), {}, (ARG, "u"), [0, 1], True, arguments)
            self.check_steps(last(write, run, ("delete", A), ("link", B, "x")), {}, (ARG, "u"), [0, 1], False, arguments)
            self.check_steps(last(write, ("rights", A, 7), ("delete", A)), {}, (ARG, "u"), [0, 1], False, arguments)

    def test_places_of_all_kinds(self):
        # The whole input is copied to b, and a is deleted there: what lies there is only in the layer.
        recipe = last(("copy", "src", (), B), ("delete", ("b", "a")), start=None)
        for place, told, end in [
                ((CONTENT, "src", AA), [0], False), ((CONTENT, "src", ("a", "b", "c")), [0], False), ((CONTENT, "src", C), [0], True),
                ((ALL, "src", AA), [0], False), ((ALL, "src", A), [0], False), ((ALL, "src", ()), [0], True), ((ALL, "src", B), [0], True),
                ((ALL, "src", ("z",)), [0], True), ((ALL, "src", ("a", "z")), [0], False), ((ALL, "src", ("a", "b", "z")), [0], False),
                # These bring nothing: the parent is no folder, or there is no file.
                ((ALL, "src", AAA), [], False), ((ALL, "src", ("b", "b")), [], False), ((ALL, "src", ("z", "z")), [], False),
                ((CONTENT, "src", A), [], False), ((CONTENT, "src", B), [], False), ((CONTENT, "src", ("z",)), [], False),
                ((ALL, "other", ()), [], False), ((CONTENT, "other", AA), [], False)]:
            with self.subTest(place=place):
                self.check_steps(recipe, {"src": SRC}, place, told, end)

    def test_an_input_that_is_missing(self):
        recipe = last(("copy", "src", AA, B), ("rights", A, 5), ("delete", A))
        self.check_steps(recipe, {}, (ALL, "src", ()), [0, 1], True)
        self.check_steps(recipe, {}, (ALL, "src", A), [0, 1], True)
        self.check_steps(recipe, {}, (ALL, "src", AA), [], False)
        self.check_steps(recipe, {}, (ALL, "src", B), [], True)
        self.check_steps(recipe, {}, (CONTENT, "src", A), [], False)

    def test_only_folders_with_rights_are_told(self):
        # Of what the input has at a, the end has the rights of a folder alone, and none where something is written.
        recipe = last(("write", AA, "x", 4))
        self.check_steps(recipe, {"src": SRC}, (ALL, "src", A), [], True)
        recipe = last(("clear", A), ("folder", A, 5))
        self.check_steps(recipe, {"src": SRC}, (ALL, "src", A), [], False)

    def test_an_end_that_tells_and_a_layer_that_does_not(self):
        # [13]: no layer has anything of what the tree begins with.
        self.check_steps(last(("link", B, "x")), {"src": SRC}, (ALL, "src", A), [], True)
        self.check_steps(last(("link", B, "x")), {"src": SRC}, (ALL, "src", B), [], False)

    def test_many(self):
        maker = Maker(173)
        found = []
        for _ in range(500):
            recipe, inputs, arguments = maker.recipe(4), maker.inputs(), maker.arguments()
            place = self.place(maker, inputs)
            try:
                steps, end = self.check(recipe, inputs, arguments, place, limit=1500)
            except TooMany:
                continue
            found.append((len(steps) > 0, end))
            now, tree = layers_of(recipe, inputs, arguments), Run(recipe, inputs, arguments).tree()
            for _ in range(6):
                some = brought(maker, inputs, arguments, [place])
                others = layers_of(recipe, *some)
                self.assertEqual([index for index in now if others[index] != now[index] and index not in steps], [])
                if not end:
                    self.assertEqual(Run(recipe, *some).tree(), tree)
        for kind in [(True, True), (True, False), (False, True), (False, False)]:
            self.assertGreater(found.count(kind), 15)

    def place(self, maker, inputs):
        kind = maker.random.choice([ALL, ALL, CONTENT, CONTENT, CONTENT, ARG])
        if kind == ARG:
            return (ARG, maker.random.choice("uvw"))
        name = maker.random.choice(["in", "out"])
        files = [path for path, node in inputs.get(name, Tree()).rows() if node[0] == "file"]
        path = maker.random.choice(files) if kind == CONTENT and files else maker.path(0 if kind == ALL else 1, 3)
        return (kind, name, path)


class TestLimits(Checks, unittest.TestCase):

    def limits(self, recipe, inputs, place, many):
        """With this limit there is an answer, with one less there is none."""
        telling(recipe, inputs, {}, place, limit=many)
        if many > 1:
            self.assertFails(TooMany, "limit", many - 1, lambda: telling(recipe, inputs, {}, place, limit=many - 1))

    def test_the_leaves_of_a_step(self):
        # The step has 7 leaves for each of two reads; the end has a, its rows and fresh names beneath: see below.
        read = ("run", "cc", (("path", AA), ("path", AB)), B)
        recipe = Recipe([("by", "src", [read]), ("last", None, [])])
        inputs = {"src": Tree([(A, FIVE), (AA, FILE)])}
        self.limits(recipe, inputs, (ALL, "src", A), 14)
        self.assertFails(TooMany, "limit", 13, lambda: stale(recipe, inputs, {}, [(ALL, "src", A)], limit=13))
        self.limits(Recipe([("by", "src", [read]), ("last", None, [])]), inputs, (CONTENT, "src", AA), 2)

    def test_the_leaves_of_the_end(self):
        inputs = {"src": Tree([(A, FIVE), (AA, FILE), (B, LINK)])}
        # At a, a/a, b, each of these with the fresh name, and at this name itself.
        for place, many in [((CONTENT, "src", AA), 7), ((ARG, "u"), 7), ((ALL, "src", B), 5 + 4 + 7), ((ALL, "src", ("c",)), 7 + 4 + 7),
                            ((ALL, "src", AA), 5 + 4 + 7), ((ALL, "src", A), 3 + 4 + 7 + 7 + 10),
                            ((ALL, "src", ()), 4 + 7 + 10 + 4 + 7 + 7 + 4), ((ALL, "src", ("b", "c")), 9), ((ALL, "other", ()), 7)]:
            with self.subTest(place=place):
                self.limits(last(), inputs, place, many)
                self.assertEqual(stale(last(), inputs, {}, [place], limit=1), [])

    def test_the_end_without_what_is_not_relevant(self):
        inputs = {"src": Tree([(A, FIVE), (AA, FILE), (B, LINK)])}
        for steps, many in [([], 1), ([("copy", "src", A, C)], 5), ([("copy", "src", B, C)], 3), ([("link", C, "x")], 3)]:
            self.limits(last(*steps, start=None), inputs, (CONTENT, "src", AA), many)
        by = ("by", "src", [("rights", AA, 7)])
        self.limits(Recipe([by, ("last", "other", [])]), inputs, (CONTENT, "src", AA), 1)
        self.limits(Recipe([by, ("last", "by", [])]), inputs, (CONTENT, "src", AA), 7)

    def test_many(self):
        maker = Maker(174)
        ends = 0
        for _ in range(250):
            recipe, inputs = maker.recipe(3, stages=2), maker.inputs()
            place = (maker.random.choice([ALL, CONTENT]), "in", maker.path(1, 2))
            steps = max([1, *[model_look(recipe, inputs, {}, [place], name, at)[0]
                              for name, _, some in recipe.stages() for at in range(len(some))]])
            end = len(end_leaves(recipe, inputs, {}, place))
            if max(steps, end) < 800:
                self.limits(recipe, inputs, place, max(steps, end))
                ends += end > steps
        self.assertGreater(ends, 100)

    def test_the_usual_limit(self):
        for many, total in [(36, 400), (37, 411)]:
            # Each path has four leaves, the one beneath it seven; the fresh name at the root has four.
            rows = [(("x" + chr(97 + at // 20) + chr(97 + at % 20),), LINK) for at in range(many)]
            self.limits(last(), {"src": Tree(rows)}, (ALL, "src", ()), total)
        self.assertFails(TooMany, "limit", 400, telling, last(), {"src": Tree(rows)}, {}, (ALL, "src", ()))
        self.assertEqual(telling(last(), {"src": Tree(rows[:36])}, {}, (ALL, "src", ())), ([], True))

    def test_the_limit_is_passed_by_keyword(self):
        with self.assertRaises(TypeError):
            telling(last(), {}, {}, (ARG, "u"), 400)


class TestStays(unittest.TestCase):

    def test_arguments_stay_and_results_are_new(self):
        recipe = last(("rights", AA, 6), ("write", B, ("arg", "u"), 4))
        inputs, arguments = {"src": SRC}, {"u": "x"}
        first = telling(recipe, inputs, arguments, (ALL, "src", A))
        first[0].clear()
        self.assertEqual(telling(recipe, inputs, arguments, (ALL, "src", A)), ([("last", 0)], True))
        self.assertEqual([recipe, inputs, arguments], [last(("rights", AA, 6), ("write", B, ("arg", "u"), 4)), {"src": SRC}, {"u": "x"}])


if __name__ == "__main__":
    unittest.main()
