"""[62] to [64] and [11]: recipes that always make equal trees, and inputs that part others."""

import unittest
from itertools import combinations, product

from recipelayers.alike import compare, compare_at, fresh, relevant
from recipelayers.asking import value
from recipelayers.errors import TooMany
from recipelayers.recipes import Recipe
from recipelayers.runs import Run
from recipelayers.trees import Tree
from recipe_samples import ANSWERS, Maker, model_relevant
from samples import A, AA, AB, B, Checks, check_example
from test_asking import EXAMPLE as ASKING_EXAMPLE

EXAMPLE = ASKING_EXAMPLE + """
>>> from recipelayers.alike import compare, relevant
>>> other = Recipe([("last", "base", [("delete", ("app", "old")), ("copy", "src", ("lib",), ("app",))])])
>>> relevant(one, other)
[('a',), ('app',), ('app', 'a'), ('app', 'old'), ('app', 'old', 'a')]
>>> told = compare(one, other)
>>> [told[0], sorted(told[1]), told[1]["src"].paths(), told[3]]
['parted', ['src'], [('lib',), ('lib', 'old')], ('app', 'old')]
"""

C = ("c",)


def last(*steps, start="base"):
    return Recipe([("last", start, list(steps))])


def told_relevant(one, other):
    """The list that relevant returns, in the words of [62]."""
    paths = set()
    for recipe in [one, other]:
        paths |= model_relevant(recipe, recipe.stages()[-1][0], {})
    name = fresh(one, other)
    return sorted((paths | {(*path, name) for path in paths}) - {()})


def model_leaves(one, other, path):
    """The tuples (leaf, node of one, node of other) of the joint walk, in the words of [63]."""
    def from_here(leaf):
        answers = {(name, asked): answer for name, asked, answer in leaf}
        told = [value(recipe, path, answers) for recipe in [one, other]]
        for kind, *question in told:
            if kind == "ask":
                return [row for answer in ANSWERS for row in from_here([*leaf, (*question, answer)])]
        return [(leaf, told[0][1], told[1][1])]

    return from_here([])


def kinds(inputs):
    """The tuples (input, path, kind) of inputs, ascending."""
    return sorted((name, path, node[0]) for name, tree in inputs.items() for path, node in tree.rows())


def needed(leaf):
    return sorted(row for row in leaf if row[2] != "none")


class TestRelevant(unittest.TestCase):

    def test_fresh(self):
        for steps, name in [
                ([], "a"), ([("delete", A)], "b"), ([("delete", B)], "a"), ([("delete", ("b", "a"))], "c"),
                ([("copy", "src", ("a", "c"), ("b",))], "d"), ([("run", "a", (("path", ("a", "b")),), C)], "d"),
                # Only names in paths count: no inputs, deeds, arguments or texts.
                ([("copy", "a", (), ()), ("run", "a", (("arg", "a"), ("text", "a")), B), ("link", B, "a")], "a"),
                ([("delete", tuple("abcd")), ("delete", tuple("efgh")), ("delete", tuple("ijkl")), ("delete", tuple("mnop")),
                  ("delete", tuple("qrst")), ("delete", tuple("uvwx"))], "y")]:
            self.assertEqual(fresh(last(*steps), last()), name)
            self.assertEqual(fresh(last(), last(*steps)), name)

    def test_all_letters_used_up(self):
        letters = "abcdefghijklmnopqrstuvwxyz"
        one = last(*[("delete", tuple(letters[at:at + 4])) for at in range(0, 28, 4)][:7])
        self.assertEqual(fresh(one, last()), "aa")
        self.assertEqual(fresh(one, last(("delete", ("aa", "ab", "ad")))), "ac")
        self.assertEqual(fresh(last(("delete", tuple("bcde"))), one), "aa")
        self.assertEqual(relevant(one, last())[:2], [A, ("a", "aa")])
        # In stages that are not the last one, too.
        self.assertEqual(fresh(Recipe([("first", None, [("delete", A)]), ("last", None, [])]), last()), "b")

    def test_relevant_paths(self):
        cases = [
            (last(), last(), [A]),
            (last(("delete", AB)), last(), [A, AB, ("a", "b", "c"), ("a", "c"), C]),
            (last(("delete", B)), last(("clear", C)), [A, B, ("b", "a"), C, ("c", "a")]),
            (last(("copy", "src", ("x", "y"), B)), last(), [A, B, ("b", "a")]),
            (last(("run", "cc", (("path", ("x", "y")),), B)), last(), [A, B, ("b", "a")]),
            (last(("copy", "src", (), ())), last(), [A]),
        ]
        for one, other, paths in cases:
            self.assertEqual([relevant(one, other), relevant(other, one)], [paths, paths])

    def test_copies_from_stages(self):
        first = ("first", "base", [("delete", ("x", "y", "z"))])
        cases = [
            # What is copied, with what lies above where it comes to lie.
            ([first, ("last", None, [("copy", "first", ("x",), AB)])],
             [A, AB, ("a", "b", "c"), ("a", "b", "y"), ("a", "b", "y", "c"), ("a", "b", "y", "z"), ("a", "b", "y", "z", "c"),
              ("a", "c"), C]),
            ([first, ("last", None, [("copy", "first", ("x", "y"), ())])], [A, ("z",), ("z", "a")]),
            ([first, ("last", None, [("copy", "first", ("q",), B)])], [A, B, ("b", "a")]),
            # Those of the start, not those of a stage that is not called.
            ([first, ("last", "first", [])], [A, ("x",), ("x", "a"), ("x", "y"), ("x", "y", "a"), ("x", "y", "z"),
                                              ("x", "y", "z", "a")]),
            ([first, ("last", "base", [])], [A]),
        ]
        for stages, paths in cases:
            self.assertEqual(relevant(Recipe(stages), last()), paths)
        nested = Recipe([first, ("next", "first", [("copy", "first", ("x", "y"), ("b",))]),
                         ("last", None, [("copy", "next", ("b",), ("c",)), ("copy", "next", (), ("d",))])])
        self.assertEqual(relevant(nested, nested), told_relevant(nested, nested))
        self.assertIn(("d", "b", "z", "a"), relevant(nested, last()))

    def test_the_words_of_the_document(self):
        maker = Maker(63)
        for _ in range(300):
            one, other = maker.recipe(4), maker.recipe(4)
            found = relevant(one, other)
            self.assertEqual(found, told_relevant(one, other))
            self.assertEqual(found, sorted(set(found)))


class TestCompareAt(Checks, unittest.TestCase):

    def check(self, one, other, path):
        """compare_at tells what follows from the leaves of the joint walk."""
        leaves = model_leaves(one, other, path)
        many = len(leaves)
        told = compare_at(one, other, path, limit=max(many, 1))
        if many > 1:
            self.assertFails(TooMany, "limit", many - 1, lambda: compare_at(one, other, path, limit=many - 1))
        parting = [needed(leaf) for leaf, first, second in leaves if first != second]
        if not parting:
            self.assertEqual(told, ("alike", [(leaf, node) for leaf, node, _ in leaves]))
            return told
        kind, inputs, arguments = told
        self.assertEqual([kind, kinds(inputs)], ["parted", min(parting, key=lambda rows: (len(rows), rows))])
        self.check_parted(one, other, path, inputs, arguments)
        return told

    def check_parted(self, one, other, path, inputs, arguments):
        """These inputs and arguments part two Recipes at a path, and tell no more than they may."""
        self.assertTrue(all(len(tree) > 0 for tree in inputs.values()))
        self.assertEqual(sorted(arguments), sorted({*one.arguments(), *other.arguments()}))
        nodes = [Run(recipe, inputs, arguments).tree().node(path) for recipe in [one, other]]
        self.assertNotEqual(nodes[0], nodes[1])

    def test_example(self):
        check_example(self, EXAMPLE)

    def test_alike(self):
        one = last(("copy", "src", A, B), ("link", C, "x"))
        self.assertEqual(compare_at(one, one, C), ("alike", [([], ("link", "x"))]))
        of = ("of", "base", A)
        self.assertEqual(compare_at(one, one, A), ("alike", [
            ([("base", A, "none")], None), ([("base", A, "file")], ("file", of, of)), ([("base", A, "link")], ("link", of)),
            ([("base", A, "folder")], ("folder", of))]))
        told = self.check(one, last(("link", C, "x"), ("copy", "src", A, B)), ("b", "c"))
        self.assertEqual([leaf for leaf, _ in told[1]][:5], [
            [("src", A, "none"), ("base", B, "none")], [("src", A, "none"), ("base", B, "file")],
            [("src", A, "none"), ("base", B, "link")], [("src", A, "none"), ("base", B, "folder"), ("base", ("b", "c"), "none")],
            [("src", A, "none"), ("base", B, "folder"), ("base", ("b", "c"), "file")]])

    def test_the_first_question_is_that_of_one(self):
        one, other = last(("copy", "src", A, A)), last(("copy", "other", A, A))
        for first, second, name in [(one, other, "src"), (other, one, "other")]:
            same = model_leaves(first, second, A)
            self.assertEqual(same[0][0][0], (name, A, "none"))
            self.check(first, second, A)
        # Where one needs no answer, other is asked.
        kind, inputs, arguments = compare_at(last(("delete", A)), last(), A)
        self.assertEqual([kind, kinds(inputs), arguments], ["parted", [("base", A, "file")], {}])

    def test_parted_by_no_row(self):
        for one, other in [(last(("link", A, "x")), last(("link", A, "y"))), (last(("write", A, "x", 4)), last(("write", A, "x", 5))),
                           (last(("folder", A, 5)), last(("folder", A, 6))), (last(("link", A, "x")), last(("write", A, "x", 4))),
                           (last(("write", A, ("arg", "u"), 4)), last(("write", A, "", 4))),
                           (last(("write", A, ("arg", "u"), 4)), last(("write", A, ("arg", "v"), 4))),
                           (last(("link", A, ("arg", "u"))), last(("link", A, "0"))),
                           (last(("link", A, ("arg", "u"))), last(("link", A, "1"))),
                           (last(("run", "cc", (("arg", "u"),), A)), last(("run", "cc", (("text", "0"),), A))),
                           (last(("run", "cc", (), A)), last(("run", "ld", (), A))),
                           (last(("run", "cc", (("text", "x"),), A)), last(("run", "cc", (("text", "x"), ("path", B)), A))),
                           (last(("link", A, "x")), last(("delete", A)))]:
            told = self.check(one, other, A)
            self.assertEqual([told[0], told[1]], ["parted", {}])

    def test_parted_by_rights_alone(self):
        # A folder with any rights the input may have is unlike one with told rights, or that of another input.
        for rights in range(8):
            copy, change = ("copy", "src", A, A), ("rights", A, rights)
            told = self.check(last(copy, start=None), last(copy, change, start=None), A)
            self.assertEqual(kinds(told[1]), [("src", A, "file")])
            told = self.check(last(copy, ("write", AA, "x", 4)), last(copy, ("write", AA, "x", 4), change), A)
            self.assertEqual(told[0], "parted")
        two = [last(("copy", name, A, A), ("delete", AA)) for name in ["src", "other"]]
        self.check(*two, A)
        folders = [last(("copy", "base", A, A), ("write", AA, "x", 4)), last(("write", AA, "x", 4))]
        self.check(*folders, A)
        for rights in range(8):
            self.check(last(("write", AA, "x", 4)), last(("folder", A, rights), ("write", AA, "x", 4)), A)

    def test_all_leaves_and_inputs(self):
        maker = Maker(64)
        found = []
        for at in range(350):
            one = maker.recipe(3)
            other = maker.changed(one) if at % 3 else maker.recipe(2)
            for path in [maker.path(1, 3), maker.path(1, 2)]:
                if len(model_leaves(one, other, path)) < 400:
                    found.append(self.check(one, other, path)[0])
        self.assertGreater(min(found.count("alike"), found.count("parted")), 150)

    def test_fewest_rows_of_all_inputs(self):
        # No inputs with fewer rows part two recipes, and of those with as many no lesser ones.
        paths = [A, B, C, AA, AB, ("a", "c"), ("b", "b")]
        rows = [(name, path, kind) for name in ["base", "src"] for path in paths for kind in ["file", "folder", "link"]]
        worlds = [some for many in range(3) for some in combinations(rows, many) if stands(some)]
        pairs = [
            (last(("copy", "src", A, B)), last(), B), (last(("copy", "src", A, B)), last(), ("b", "b")),
            (last(("copy", "src", A, ())), last(), B), (last(("clear", A)), last(), AB),
            (last(("delete", A)), last(("clear", A)), A), (last(("rights", A, 5)), last(("rights", A, 6)), A),
            (last(("run", "cc", (("path", A), ("path", AB)), C)), last(("run", "cc", (("path", A), ("path", ("a", "c"))), C)), C),
            (last(("copy", "src", A, A), ("copy", "src", B, B)), last(("copy", "src", B, B)), A),
            (last(("copy", "src", (), A)), last(("copy", "src", (), A), ("delete", AB)), AB),
        ]
        for one, other, path in pairs:
            told = self.check(one, other, path)
            parting = [sorted(some) for some in worlds if self.part(one, other, path, some)]
            self.assertEqual(kinds(told[1]), min(parting, key=lambda some: (len(some), some)))

    def test_the_least_rows_are_not_those_asked_first(self):
        # What m has at b/x or d/x is hidden by one if z or n, which are asked first, have anything at a.
        before = [("midn", "n", [("clear", A)]), ("midz", "z", [("clear", A)])]
        read = ("run", "cc", (("path", ("b", "x")), ("path", ("d", "x"))), C)
        one = Recipe([*before, ("last", "m", [("copy", "midz", A, B), ("copy", "midn", A, ("d",)), read])])
        other = Recipe([*before, ("last", "m", [read])])
        for first, second in [(one, other), (other, one)]:
            told = self.check(first, second, C)
            self.assertEqual(kinds(told[1]), [("m", B, "folder"), ("m", ("b", "x"), "file"), ("z", A, "file")])

    def part(self, one, other, path, rows):
        """Whether inputs with nodes of these kinds part two Recipes at a path, whatever told texts and rights are."""
        inputs = {}
        for at, (name, told, kind) in enumerate(sorted(rows)):
            node = {"file": ("file", f"new {at}", at), "link": ("link", f"new {at}"), "folder": ("folder", at)}[kind]
            inputs.setdefault(name, []).append((told, node))
        inputs = {name: Tree(some) for name, some in inputs.items()}
        return Run(one, inputs, {}).tree().node(path) != Run(other, inputs, {}).tree().node(path)

    def test_limits(self):
        one = last(("run", "cc", (("path", A), ("path", B), ("path", C)), A))
        many = len(model_leaves(one, one, A))
        self.assertEqual(many, 64)
        self.assertEqual(compare_at(one, one, A, limit=64)[0], "alike")
        self.assertFails(TooMany, "limit", 63, lambda: compare_at(one, one, A, limit=63))
        self.assertFails(TooMany, "limit", 1, lambda: compare_at(one, one, A, limit=1))
        # Also where the first leaf parts them.
        self.assertFails(TooMany, "limit", 3, lambda: compare_at(last(), last(("link", A, "x")), A, limit=3))
        self.assertEqual(compare_at(last(), last(("link", A, "x")), A, limit=4)[0], "parted")
        self.assertEqual(compare_at(last(start=None), last(("link", A, "x")), A, limit=1), ("parted", {}, {}))

    def test_the_usual_limit(self):
        reads = tuple(("path", path) for path in [AB, B, C])
        one = last(("run", "cc", reads, A))
        self.assertEqual(len(model_leaves(one, one, A)), 7 * 16)
        # Each further folder above a file that is read makes three more leaves of one.
        two = last(("run", "cc", tuple(("path", (*path, "x", "y")) for path in [A, B, C]), A))
        self.assertEqual(len(model_leaves(two, two, A)), 1000)
        self.assertFails(TooMany, "limit", 400, compare_at, two, two, A)
        self.assertEqual(len(compare_at(two, two, A, limit=1000)[1]), 1000)
        self.assertEqual(compare_at(one, one, A)[0], "alike")

    def test_many_questions_end_soon(self):
        names = [("x" + letter,) for letter in "abcdefgh"]
        deep = Recipe([("sx", "ia", [("copy", "ib", path, ()) for path in names]),
                       ("sy", "sx", [("copy", "sx", path, ()) for path in names]),
                       ("sz", "sy", [("copy", "sy", path, ()) for path in names])])
        self.assertFails(TooMany, "limit", 4000, lambda: compare_at(deep, deep, A, limit=4000))
        self.assertFails(TooMany, "limit", 2000, compare, deep, deep)


def stands(rows):
    """Whether trees may have nodes of these kinds."""
    told = {(name, path): kind for name, path, kind in rows}
    above = all(len(path) == 1 or told.get((name, path[:-1])) == "folder" for name, path, _ in rows)
    return above and len(told) == len(rows)


class TestCompare(Checks, unittest.TestCase):

    def check(self, one, other):
        """compare tells what follows from compare_at at all relevant paths."""
        paths = relevant(one, other)
        leaves = {path: model_leaves(one, other, path) for path in paths}
        many = sum(len(some) for some in leaves.values())
        told = compare(one, other, limit=many)
        if many > 1:
            self.assertFails(TooMany, "limit", many - 1, lambda: compare(one, other, limit=many - 1))
        parting = [(len(needed(leaf)), needed(leaf), path) for path in paths
                   for leaf, first, second in leaves[path] if first != second]
        if not parting:
            paper = [(path, [(leaf, node) for leaf, node, _ in leaves[path]]) for path in paths]
            self.assertEqual(told, ("alike", paper))
            return told
        kind, inputs, arguments, path = told
        _, rows, least = min(parting)
        self.assertEqual([kind, kinds(inputs), path], ["parted", rows, least])
        TestCompareAt.check_parted(self, one, other, path, inputs, arguments)
        return told

    def test_alike(self):
        copy, write, link = ("copy", "src", A, ("x", "a")), ("write", B, "x", 4), ("link", C, ("arg", "u"))
        pairs = [
            # Steps at unlike first names exchanged.
            ([copy, write, link], [link, copy, write]), ([("delete", A), ("clear", B)], [("clear", B), ("delete", A)]),
            # A step written twice, or in vain.
            ([copy], [copy, copy]), ([write], [write, write]), ([("clear", A)], [("clear", A)] * 8),
            ([("rights", A, 5)], [("rights", A, 6), ("rights", A, 5)]), ([write], [("delete", B), write]),
            ([write], [("link", B, "y"), write]), ([("delete", A)], [copy[:3] + (A,), ("delete", A)]),
            ([("folder", A, 6)], [("folder", A, 6), ("rights", A, 6)]), ([("delete", A)], [("delete", AA), ("delete", A)]),
            ([("run", "cc", (), A)], [("run", "cc", (("path", A),), A), ("run", "cc", (), A)]),
        ]
        for one, other in pairs:
            self.assertEqual(self.check(last(*one), last(*other))[0], "alike")
            self.assertEqual(self.check(last(*other, start="src"), last(*one, start="src"))[0], "alike")

    def test_alike_by_way_of_a_stage(self):
        one = last(("copy", "src", A, B))
        ways = [
            Recipe([("by", "src", []), ("last", "base", [("copy", "by", A, B)])]),
            Recipe([("by", None, [("copy", "src", (), ())]), ("last", "base", [("copy", "by", A, B)])]),
            Recipe([("by", None, [("copy", "src", (), C)]), ("last", "base", [("copy", "by", ("c", "a"), B)])]),
            Recipe([("by", "base", []), ("last", "by", [("copy", "src", A, B)])]),
            Recipe([("unused", "other", [("link", A, "x")]), ("by", "base", [("copy", "src", A, B)]), ("last", "by", [])]),
        ]
        for other in ways:
            self.assertEqual([self.check(one, other)[0], self.check(other, one)[0]], ["alike", "alike"])
        other = Recipe([("by", "src", [("delete", AA)]), ("last", "base", [("copy", "by", A, B)])])
        told = self.check(one, other)
        self.assertEqual([kinds(told[1]), told[3]], [[("src", A, "folder"), ("src", AA, "file")], ("b", "a")])

    def test_parted(self):
        cases = [
            ([("link", A, "x")], [("link", A, "y")], [], A), ([("link", B, "x")], [], [], B),
            ([], [("delete", A)], [("base", A, "file")], A), ([], [("clear", A)], [("base", A, "folder"), ("base", AB, "file")], AB),
            # Each beneath the other; what one makes above the other's path.
            ([("write", AA, "x", 4), ("delete", A)], [("delete", A), ("write", AA, "x", 4)], [], A),
            ([("copy", "ask", A, B)], [("copy", "ask", A, B), ("rights", B, 5)], [("ask", A, "file")], B),
            ([("folder", AA, 5)], [("folder", AB, 5)], [], AA),
            # Of all, the fewest rows, then the least ones, then the least path.
            ([("copy", "src", A, ("y",)), ("copy", "src", B, ("x",))], [], [("src", A, "file")], ("y",)),
            ([("copy", "src", A, ("y",)), ("copy", "src", A, ("x",))], [], [("src", A, "file")], ("x",)),
            ([("copy", "src", A, B), ("write", ("z",), "x", 4)], [], [], ("z",)),
        ]
        for one, other, rows, path in cases:
            for first, second in [(one, other), (other, one)]:
                told = self.check(last(*first), last(*second))
                self.assertEqual([told[0], kinds(told[1]), told[3]], ["parted", rows, path])

    def test_parted_at_a_fresh_name_alone(self):
        told = self.check(last(("clear", B)), last(("clear", B), ("delete", ("b", "q")), start="other"))
        self.assertEqual([kinds(told[1]), told[3]], [[("base", A, "file")], A])

    def test_many_recipes(self):
        maker = Maker(65)
        found = []
        for at in range(300):
            one = maker.recipe(2, stages=2)
            other = maker.changed(one) if at % 4 else maker.recipe(2, stages=1)
            if len(relevant(one, other)) < 30:
                told = self.check(one, other)
                found.append(told[0])
                for _ in range(3):
                    inputs, arguments = maker.inputs(), maker.arguments()
                    trees = [Run(recipe, inputs, arguments).tree() for recipe in [one, other]]
                    if told[0] == "alike":
                        self.assertEqual(trees[0], trees[1])
        self.assertGreater(min(found.count("alike"), found.count("parted")), 80)

    def test_limits(self):
        one = last(("delete", A))
        self.assertEqual([len(leaves) for _, leaves in compare(one, one)[1]], [1, 1, 4])
        self.assertEqual(compare(one, one, limit=6)[0], "alike")
        for limit in [1, 2, 5]:
            self.assertFails(TooMany, "limit", limit, lambda: compare(one, one, limit=limit))
            self.assertFails(TooMany, "limit", limit, lambda: compare(one, last(("link", A, "x")), limit=limit))
        self.assertEqual(compare(one, last(("link", A, "x")), limit=6)[0], "parted")
        # The usual one is 2000.
        wide = last(*[("copy", "src", (), tuple("abcd"[:many])) for many in range(1, 4)])
        deep = Recipe([("one", "base", [("copy", "src", (), ("x" + name,)) for name in "abcdefgh"]),
                       ("two", "one", [("copy", "one", (), ("y" + name,)) for name in "abcdefgh"]),
                       ("last", "two", [("copy", "two", (), ("z" + name,)) for name in "abc"])])
        self.assertEqual(compare(wide, wide)[0], "alike")
        many = sum(len(model_leaves(deep, deep, path)) for path in relevant(deep, deep))
        self.assertGreater(many, 2000)
        self.assertLess(many, 4000)
        self.assertFails(TooMany, "limit", 2000, compare, deep, deep)
        self.assertEqual(compare(deep, deep, limit=many)[0], "alike")

    def test_parameters_are_passed_by_keyword(self):
        with self.assertRaises(TypeError):
            compare(last(), last(), 2000)
        with self.assertRaises(TypeError):
            compare_at(last(), last(), A, 400)

    def test_arguments_stay_and_lists_are_new(self):
        one, other = last(("copy", "src", A, B)), last(("copy", "src", A, B), ("copy", "src", A, B))
        told, again = compare(one, other), compare(one, other)
        self.assertEqual([told, one, other], [again, last(*one.steps("last")), last(*other.steps("last"))])
        lists = [told[1], *[leaves for _, leaves in told[1]], *[leaf for _, leaves in told[1] for leaf, _ in leaves]]
        self.assertEqual(len(lists), len({id(some) for some in lists}))
        for some in lists:
            some.append(5)
        self.assertEqual(compare(one, other), again)
        kind, inputs, arguments, path = compare(one, last())
        kept = dict(inputs)
        inputs.clear()
        arguments["u"] = 5
        self.assertEqual(compare(one, last()), (kind, kept, {}, path))
        paths = relevant(one, other)
        paths.clear()
        self.assertEqual(relevant(one, other), [B, ("b", "c"), C])

    def test_a_result_depends_on_the_recipes_alone(self):
        for steps in product([("link", A, "x"), ("delete", A), ("copy", "src", A, B)], repeat=2):
            self.assertEqual(compare(last(*steps), last()), compare(Recipe(last(*steps).stages()), last()))


if __name__ == "__main__":
    unittest.main()
