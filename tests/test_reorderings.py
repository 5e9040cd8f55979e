"""[80], [81], [11] and [14]: orders of the steps of the last stage, and steps that are not needed there."""

import unittest
from itertools import permutations

from recipelayers.alike import compare
from recipelayers.errors import TooMany
from recipelayers.recipes import Recipe
from recipelayers.reorderings import apart, idle, ordered, orders
from recipelayers.runs import Run
from recipelayers.trees import Tree
from recipe_samples import Maker
from samples import A, AA, AB, B, Checks, check_example
from test_alike import kinds, model_leaves, told_relevant

EXAMPLE = """
>>> from recipelayers.recipes import Recipe
>>> from recipelayers.reorderings import apart, idle, orders
>>> steps = [("write", ("a", "x"), "one", 4), ("write", ("b",), "two", 4), ("delete", ("a",)), ("write", ("a", "x"), "one", 4)]
>>> recipe = Recipe([("last", None, steps)])
>>> [idle(recipe), len(orders(recipe)), apart(recipe, [1, 2, 0, 3])]
[[0, 2], 16, None]
"""

C = ("c",)
LINK, DELETE, WRITE = ("link", B, "x"), ("delete", A), ("write", A, "x", 4)
READ = ("run", "cc", (("path", A),), B)
COPY = ("copy", "src", A, B)
EARLIER = ("by", "src", [DELETE, LINK])


def last(*steps, start="base"):
    return Recipe([("last", start, list(steps))])


def many_leaves(one, other):
    """How many leaves compare counts, in the words of [64]."""
    return sum(len(model_leaves(one, other, path)) for path in told_relevant(one, other))


def without(recipe, at):
    """The Recipe without a step of its last stage."""
    name, _, steps = recipe.stages()[-1]
    return recipe.with_steps(name, steps[:at] + steps[at + 1:])


def by_neighbours(found, many):
    """The orders that are reached from the first one by exchanging neighbours, each time within those found."""
    reached, left = set(), [tuple(range(many))]
    while left:
        order = left.pop()
        if order in reached or list(order) not in found:
            continue
        reached.add(order)
        left += [order[:at] + (order[at + 1], order[at]) + order[at + 2:] for at in range(many - 1)]
    return sorted(list(order) for order in reached)


class TestOrdered(unittest.TestCase):

    def test_all_orders(self):
        steps = [LINK, DELETE, COPY]
        recipe = Recipe([EARLIER, ("last", "by", steps)])
        for order in permutations(range(3)):
            found = ordered(recipe, list(order))
            self.assertEqual(found.stages(), [EARLIER, ("last", "by", [steps[at] for at in order])])
        self.assertEqual(recipe.stages(), [EARLIER, ("last", "by", steps)])
        self.assertEqual(ordered(recipe, [0, 1, 2]), recipe)

    def test_eight_steps_and_none(self):
        steps = [("write", (name,), name, 4) for name in "abcdefgh"]
        self.assertEqual(ordered(last(*steps), [7, 6, 5, 4, 3, 2, 1, 0]), last(*steps[::-1]))
        self.assertEqual(ordered(last(), []), last())

    def test_the_order_stays(self):
        order = [1, 0]
        ordered(last(LINK, DELETE), order)
        self.assertEqual(order, [1, 0])


class TestOrders(Checks, unittest.TestCase):

    def check(self, recipe, limit=2000):
        """Just the orders are found of which compare says that they are alike; the others are parted by inputs."""
        many = len(recipe.stages()[-1][2])
        found = orders(recipe, limit=limit)
        wanted = []
        for order in permutations(range(many)):
            order = list(order)
            other = ordered(recipe, order)
            told = compare(recipe, other, limit=limit)
            parted = apart(recipe, order, limit=limit)
            if told[0] == "alike":
                wanted.append(order)
                self.assertIsNone(parted)
            else:
                self.check_apart(recipe, other, parted)
                self.assertEqual(parted, told[1:])
        self.assertEqual(found, wanted)
        self.assertTrue(all(order.__class__ is list for order in found))
        return found

    def check_apart(self, recipe, other, parted):
        """These inputs and arguments part two Recipes at the path that is told."""
        self.assertIs(parted.__class__, tuple)
        inputs, arguments, path = parted
        trees = [Run(some, inputs, arguments).tree() for some in [recipe, other]]
        self.assertNotEqual(trees[0].node(path), trees[1].node(path))
        self.assertIn(path, trees[0].apart(trees[1]))

    def test_example(self):
        check_example(self, EXAMPLE)

    def test_no_step_and_one(self):
        self.assertEqual(orders(last()), [[]])
        for step in [LINK, COPY, READ, ("rights", A, 5)]:
            self.assertEqual(self.check(last(step)), [[0]])
            self.assertIsNone(apart(last(step), [0]))

    def test_two_steps(self):
        both = [[0, 1], [1, 0]]
        for one, other, found in [
                (LINK, DELETE, both), (WRITE, DELETE, [[0, 1]]), (DELETE, WRITE, [[0, 1]]), (WRITE, WRITE, both), (WRITE, READ, [[0, 1]]),
                (READ, WRITE, [[0, 1]]), (DELETE, ("delete", AA), both), (("clear", A), ("write", AA, "x", 4), [[0, 1]]),
                (("write", AB, "x", 4), ("write", AA, "x", 4), both), (COPY, DELETE, both), (COPY, LINK, [[0, 1]]),
                (("rights", A, 5), ("rights", A, 6), [[0, 1]]), (("rights", A, 5), ("rights", B, 6), both),
                (("folder", A, 5), ("write", AA, "x", 4), both), (("folder", A, 6), ("write", AA, "x", 4), both)]:
            self.assertEqual(self.check(last(one, other)), found)
            self.assertEqual(self.check(Recipe([EARLIER, ("last", "base", [one, other])])), found)

    def test_what_a_later_step_hides(self):
        # [14]: the two writes part each other, but beneath the delete they may stand in any order.
        steps = [WRITE, ("write", A, "y", 4), DELETE]
        self.assertEqual(self.check(last(*steps)), [[0, 1, 2], [1, 0, 2]])
        self.assertEqual(self.check(last(*steps[:2])), [[0, 1]])
        self.assertEqual(len(self.check(last(*steps, LINK))), 8)

    def test_orders_that_no_neighbours_reach(self):
        found = self.check(last(WRITE, DELETE, READ, WRITE))
        self.assertEqual(found, [[0, 1, 2, 3], [1, 2, 0, 3], [1, 2, 3, 0], [3, 1, 2, 0]])
        self.assertEqual(by_neighbours(found, 4), [[0, 1, 2, 3]])
        found = self.check(last(DELETE, WRITE, READ, WRITE, start=None))
        self.assertNotEqual(by_neighbours(found, 4), found)
        self.assertEqual([len(found), len(by_neighbours(found, 4))], [8, 6])

    def test_five_steps(self):
        writes = [("write", (name,), name, 4) for name in "abcde"]
        self.assertEqual(orders(last(*writes)), [list(order) for order in permutations(range(5))])
        steps = [("delete", A), ("write", A, "x", 4), ("link", B, "x"), ("clear", C), ("copy", "src", A, C)]
        found = orders(last(*steps))
        self.assertEqual(found, [list(order) for order in permutations(range(5))
                                 if order.index(0) < order.index(1) and order.index(3) < order.index(4)])

    def test_six_steps(self):
        # The number of steps ahead of the limit; for apart it does not matter.
        steps = [("write", (name,), name, 4) for name in "abcdef"]
        for limit in [1, 2, 2000, 4000]:
            self.assertFails(TooMany, "limit", 5, lambda: orders(last(*steps), limit=limit))
        self.assertFails(TooMany, "limit", 5, orders, last(*steps, ("write", ("g",), "x", 4)))
        self.assertIsNone(apart(last(*steps), [5, 4, 3, 2, 1, 0]))
        steps[5] = ("write", A, "y", 4)
        self.assertEqual(apart(last(*steps, start=None), [5, 0, 1, 2, 3, 4]), ({}, {}, A))
        # Steps of earlier stages do not count.
        recipe = Recipe([("by", None, steps), ("more", None, steps), ("last", "by", [DELETE])])
        self.assertEqual(orders(recipe), [[0]])

    def test_many(self):
        maker = Maker(80)
        found = []
        for at in range(60):
            recipe = maker.recipe(4 if at % 6 == 0 else 3, stages=2)
            try:
                some = self.check(recipe, limit=400)
            except TooMany:
                continue
            found.append(len(some))
            for _ in range(2):
                inputs, arguments = maker.inputs(), maker.arguments()
                tree = Run(recipe, inputs, arguments).tree()
                for order in some:
                    self.assertEqual(Run(ordered(recipe, order), inputs, arguments).tree(), tree)
        self.assertGreater(len([many for many in found if many in (2, 3, 4, 6)]), 15)


class TestApart(Checks, unittest.TestCase):

    def parted(self, recipe, order, rows, path):
        """An order is parted from the Recipe by these rows, at this path."""
        inputs, arguments, told = apart(recipe, order)
        self.assertEqual([kinds(inputs), told, sorted(arguments)], [rows, path, recipe.arguments()])
        self.assertTrue(all(isinstance(tree, Tree) for tree in inputs.values()))
        trees = [Run(some, inputs, arguments).tree() for some in [recipe, ordered(recipe, order)]]
        self.assertNotEqual(trees[0].node(path), trees[1].node(path))

    def test_by_no_rows(self):
        self.parted(last(WRITE, DELETE), [1, 0], [], A)
        self.parted(last(("write", A, ("arg", "u"), 4), ("write", A, ("arg", "v"), 4)), [1, 0], [], A)
        self.parted(last(LINK, WRITE, READ), [0, 2, 1], [], B)

    def test_by_one_row(self):
        self.parted(last(COPY, LINK), [1, 0], [("src", A, "file")], B)
        self.parted(last(("rights", A, 5), ("rights", A, 6)), [1, 0], [("base", A, "file")], A)
        self.parted(last(READ, DELETE), [1, 0], [("base", A, "file")], B)

    def test_by_several_rows(self):
        read = ("run", "cc", (("path", AB),), C)
        self.parted(last(("clear", A), read), [1, 0], [("base", A, "folder"), ("base", AB, "file")], C)
        self.parted(last(("copy", "src", A, B), ("copy", "other", A, B)), [1, 0], [("other", A, "file"), ("src", A, "file")], B)
        deep = ("rights", ("a", "b", "c"), 6)
        self.parted(last(("delete", ("a", "b", "c")), ("run", "cc", (("path", ("a", "b", "c")),), C), deep), [1, 0, 2],
                    [("base", A, "folder"), ("base", AB, "folder"), ("base", ("a", "b", "c"), "file")], C)

    def test_the_order_passed_is_not_parted(self):
        maker = Maker(81)
        for _ in range(60):
            recipe = maker.recipe(3)
            try:
                self.assertIsNone(apart(recipe, list(range(len(recipe.stages()[-1][2])))))
            except TooMany:
                pass


class TestIdle(Checks, unittest.TestCase):

    def check(self, recipe, limit=2000):
        """Just the steps are told without which compare says that the Recipe is alike."""
        found = idle(recipe, limit=limit)
        many = len(recipe.stages()[-1][2])
        self.assertEqual(found, [at for at in range(many) if compare(recipe, without(recipe, at), limit=limit)[0] == "alike"])
        return found

    def test_idle_steps(self):
        for steps, found in [
                ([], []), ([LINK], []), ([DELETE], []), ([("clear", A)], []), ([READ], []), ([COPY], []),
                # Written twice: either may go, though not both.
                ([LINK, LINK], [0, 1]), ([LINK, LINK, LINK], [0, 1, 2]), ([COPY, COPY], [0, 1]), ([DELETE, DELETE], [0, 1]),
                # Overwritten.
                ([WRITE, DELETE], [0]), ([WRITE, ("write", A, "y", 4)], [0]), ([("write", AA, "x", 4), ("clear", A)], []),
                ([("delete", AA), DELETE], [0]), ([("rights", A, 6), WRITE], [0]), ([("folder", A, 6), ("rights", A, 5)], []),
                ([("rights", A, 6), ("rights", A, 5)], [0]), ([("link", AA, "x"), WRITE], [0]),
                # Needed, as another step reads it before it goes.
                ([WRITE, READ, DELETE], []), ([WRITE, READ, WRITE], [2]), ([LINK, READ], [0]),
                ([READ, WRITE, READ], [0]), ([("folder", A, 5), ("write", AA, "x", 4)], [])]:
            with self.subTest(steps=steps):
                self.assertEqual(self.check(last(*steps)), found)
                self.assertEqual(self.check(Recipe([EARLIER, ("last", "base", steps)])), found)

    def test_idle_where_the_stage_starts(self):
        # With nothing at first, there is nothing to delete, and a folder is made with rights 5 anyway.
        self.assertEqual(self.check(last(DELETE, ("clear", B), LINK, start=None)), [0, 1])
        self.assertEqual(self.check(last(("folder", A, 5), ("write", AA, "x", 4), start=None)), [0])
        self.assertEqual(self.check(last(("folder", A, 6), ("write", AA, "x", 4), start=None)), [])
        recipe = Recipe([("by", "src", [DELETE]), ("last", "by", [DELETE, LINK])])
        self.assertEqual(self.check(recipe), [0])
        self.assertEqual(self.check(Recipe([("by", "src", [LINK]), ("last", "by", [DELETE, LINK])])), [1])

    def test_eight_steps(self):
        steps = [("write", (name,), name, 4) for name in "abcd"]
        self.assertEqual(self.check(last(*steps, *steps)), list(range(8)))
        # The first write of a and the delete are overwritten; b and c are written twice; d is written once.
        self.assertEqual(self.check(last(*steps, DELETE, *steps[:3])), [0, 1, 2, 4, 6, 7])

    def test_many(self):
        maker = Maker(82)
        found = 0
        for _ in range(200):
            recipe = maker.recipe(4)
            try:
                some = self.check(recipe, limit=500)
            except TooMany:
                continue
            found += len(some)
            inputs, arguments = maker.inputs(), maker.arguments()
            for at in some:
                self.assertEqual(Run(without(recipe, at), inputs, arguments).tree(), Run(recipe, inputs, arguments).tree())
        self.assertGreater(found, 60)


class TestLimits(Checks, unittest.TestCase):

    def test_the_limit_of_the_hardest_order(self):
        # In some orders the read asks less than in others, as what it reads was written or deleted before.
        recipe = last(("write", AA, "x", 4), ("delete", AB), ("run", "cc", (("path", AA), ("path", AB)), C))
        leaves = {order: many_leaves(recipe, ordered(recipe, list(order))) for order in permutations(range(3))}
        most = max(leaves.values())
        self.assertGreater(len(set(leaves.values())), 1)
        orders(recipe, limit=most)
        for limit in sorted({most - 1, min(leaves.values()), min(leaves.values()) - 1, 1}):
            self.assertFails(TooMany, "limit", limit, lambda: orders(recipe, limit=limit))
        for order, many in leaves.items():
            apart(recipe, list(order), limit=many)
            self.assertFails(TooMany, "limit", many - 1, lambda: apart(recipe, list(order), limit=many - 1))

    def test_a_limit_that_is_enough_for_the_order_passed_alone(self):
        recipe = last(("delete", A), READ, start="base")
        same = many_leaves(recipe, recipe)
        turned = many_leaves(recipe, ordered(recipe, [1, 0]))
        self.assertLess(same, turned)
        self.assertIsNone(apart(recipe, [0, 1], limit=same))
        self.assertFails(TooMany, "limit", same, lambda: apart(recipe, [1, 0], limit=same))
        self.assertFails(TooMany, "limit", same, lambda: orders(recipe, limit=same))
        self.assertEqual(orders(recipe, limit=turned), [[0, 1]])

    def test_idle(self):
        recipe = last(("delete", A), READ, LINK)
        leaves = [many_leaves(recipe, without(recipe, at)) for at in range(3)]
        self.assertGreater(len(set(leaves)), 1)
        idle(recipe, limit=max(leaves))
        for limit in sorted({max(leaves) - 1, min(leaves), 1}):
            self.assertFails(TooMany, "limit", limit, lambda: idle(recipe, limit=limit))
        # Without steps there is nothing to compare.
        self.assertEqual(idle(last(), limit=1), [])

    def test_the_usual_limit(self):
        # With the copies a recipe has more leaves than 2000, fewer than 4000.
        one = ("one", "base", [("copy", "src", (), ("x" + name,)) for name in "abcdefgh"])
        two = ("two", "one", [("copy", "one", (), ("y" + name,)) for name in "abcdefgh"])
        recipe = Recipe([one, two, ("last", "two", [("copy", "two", (), ("z" + name,)) for name in "abc"])])
        many = many_leaves(recipe, recipe)
        self.assertTrue(2000 < many < 4000)
        for call in [lambda: orders(recipe), lambda: apart(recipe, [0, 1, 2]), lambda: idle(recipe)]:
            self.assertFails(TooMany, "limit", 2000, call)
        self.assertIsNone(apart(recipe, [0, 1, 2], limit=many))

    def test_limits_are_passed_by_keyword(self):
        for call in [lambda: orders(last(), 2000), lambda: apart(last(), [], 2000), lambda: idle(last(), 2000)]:
            with self.assertRaises(TypeError):
                call()


class TestStays(unittest.TestCase):

    def test_arguments_stay_and_results_are_new(self):
        recipe, order = last(LINK, DELETE, LINK), [2, 1, 0]
        found = orders(recipe)
        kept = [list(some) for some in found]
        self.assertEqual(len({id(some) for some in found}), len(found))
        found[0].append(5)
        found.clear()
        self.assertEqual(orders(recipe), kept)
        steps = idle(recipe)
        steps.append(5)
        self.assertEqual(idle(recipe), [0, 2])
        self.assertIsNone(apart(recipe, order))
        self.assertEqual([recipe, order], [last(LINK, DELETE, LINK), [2, 1, 0]])
        inputs, arguments, path = apart(last(COPY, LINK), [1, 0])
        again = apart(last(COPY, LINK), [1, 0])
        self.assertEqual((inputs, arguments, path), again)
        inputs.clear()
        arguments["u"] = 5
        self.assertEqual(apart(last(COPY, LINK), [1, 0]), again)


if __name__ == "__main__":
    unittest.main()
