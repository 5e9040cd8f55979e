"""[32] to [35], [8] and [16]: stacks."""

import unittest

from recipelayers.errors import NoLayer, TooMany, Wrong
from recipelayers.layers import Layer, joined
from recipelayers.stacks import Stack
from recipelayers.trees import Tree
from samples import (A, AA, AB, B, CLEARED, FILE, FIVE, GONE, KEPT, LINK, SEVEN, Checks, Odd, any_values,
                     check_example, model_laid, model_word, small_layers, small_trees)

EXAMPLE = """
>>> from recipelayers.layers import Layer
>>> from recipelayers.stacks import Stack
>>> from recipelayers.trees import Tree
>>> start = Tree([(('a',), ('folder', 7)), (('a', 'b'), ('file', 'x', 4))])
>>> low = Layer([(('a',), ('folder', None)), (('a', 'c'), ('link', 'y'))])
>>> stack = Stack(start, [low]) | Layer([(('a', 'b'), ('gone',))])
>>> [stack.givers(('a',)), stack.givers(('a', 'b')), stack.shown_without(('a', 'b'), 1), stack.exposed(0)]
[[0, None], [1], ('file', 'x', 4), [('a', 'c')]]
"""

START = Tree([(A, SEVEN), (AB, FILE), (B, LINK)])
LAYERS = [Layer([(A, KEPT), (AA, FILE)]), Layer([(A, GONE)]), Layer([(A, KEPT), (AA, KEPT), (("a", "a", "c"), LINK)]),
          Layer([(B, CLEARED)]), Layer([(A, ("opaque", None))])]
NUMBERS = [-1, -2, -10 ** 39, 10 ** 39]


def some_stacks(many):
    """Stacks of this many small layers on small trees."""
    layers = small_layers((A, AA))
    trees = small_trees((A, AA, B), (FILE, FIVE, SEVEN))
    return [Stack(trees[at % len(trees)], [layers[(at * 7 + k * k * 13 + k) % len(layers)] for k in range(many)])
            for at in range(150)]


class TestStack(Checks, unittest.TestCase):

    def test_example(self):
        check_example(self, EXAMPLE)

    def test_start_and_layers(self):
        for layers in [LAYERS, tuple(LAYERS)]:
            stack = Stack(START, layers)
            self.assertEqual([stack.start(), stack.layers(), len(stack)], [START, LAYERS, 5])
            self.assertIs(stack.layers().__class__, list)
        for stack in [Stack(START), Stack(START, []), Stack(START, ())]:
            self.assertEqual([stack.start(), stack.layers(), len(stack), stack.tree()], [START, [], 0, START])

    def test_eight_layers(self):
        for many in range(9):
            stack = Stack(START, [LAYERS[0]] * many)
            self.assertEqual([len(stack), stack.layers()], [many, [LAYERS[0]] * many])

    def test_one_more_layer(self):
        stack = Stack(START)
        for at in range(8):
            more = stack | LAYERS[at % 5]
            self.assertEqual([len(stack), len(more), more.layers()], [at, at + 1, [*stack.layers(), LAYERS[at % 5]]])
            self.assertIs(more.__class__, Stack)
            stack = more
        self.assertEqual(stack.start(), START)
        self.assertFails(TooMany, "limit", 8, lambda: stack | Layer())
        self.assertEqual(len(stack), 8)

    def test_equal(self):
        stack = Stack(START, LAYERS)
        self.assertTruth(True, stack == Stack(Tree(START.rows()), tuple(Layer(layer.rows()) for layer in LAYERS)))
        self.assertTruth(False, stack != Stack(START, LAYERS))
        for other in [Stack(Tree(), LAYERS), Stack(START, LAYERS[:4]), Stack(START, LAYERS[::-1]), Stack(START)]:
            self.assertTruth(False, stack == other)
            self.assertTruth(True, stack != other)
        # Unlike layers make unlike stacks, also where the trees are equal.
        one = Stack(START, [Layer([(A, GONE)])])
        self.assertTruth(False, one == Stack(START, [Layer([(A, GONE), (("z",), GONE)])]))
        for thing in [None, [], START, LAYERS, (START, LAYERS), 0, True, repr(stack)]:
            self.assertTruth(False, stack == thing)
            self.assertTruth(False, Stack(Tree()) == thing)

    def test_trees(self):
        for stack in some_stacks(4):
            tree, trees = stack.start(), [stack.start()]
            for layer in stack.layers():
                tree = Tree(model_laid(tree, layer))
                trees.append(tree)
            self.assertEqual([stack.tree(), [stack.after(many) for many in range(5)], list(stack.walk())],
                             [tree, trees, trees])

    def test_walk_left_early_and_two_at_once(self):
        stack = Stack(START, LAYERS)
        trees = [stack.after(many) for many in range(6)]
        one, other = stack.walk(), stack.walk()
        found = [next(one), next(one), next(other), next(one), next(other)]
        self.assertEqual(found, [trees[0], trees[1], trees[0], trees[2], trees[1]])
        one.close()
        self.assertEqual(list(other), trees[2:])
        for tree in stack.walk():
            if tree == trees[1]:
                break
        self.assertEqual(list(stack.walk()), trees)
        self.assertIs(iter(one), one)
        self.assertEqual(list(Stack(START).walk()), [START])

    def test_without(self):
        stack = Stack(START, LAYERS)
        for at in range(5):
            self.assertEqual(stack.without(at), Stack(START, LAYERS[:at] + LAYERS[at + 1:]))
        self.assertEqual(Stack(START, LAYERS[:1]).without(0), Stack(START))

    def test_squashed(self):
        stack = Stack(START, LAYERS)
        for begin in range(6):
            for end in range(begin, 6):
                self.assertEqual(stack.squashed(begin, end), joined(LAYERS[begin:end]))
        self.assertEqual([Stack(START).squashed(0, 0), stack.squashed(2, 2)], [Layer(), Layer()])

    def test_squashed_neighbours(self):
        # [16]: they may be squashed, whatever they are laid on.
        trees = small_trees((A, AA, B), (FIVE, SEVEN))
        for stack in some_stacks(3):
            layers = stack.layers()
            for begin, end in [(0, 2), (1, 3), (0, 3)]:
                squashed = [*layers[:begin], stack.squashed(begin, end), *layers[end:]]
                for tree in trees:
                    self.assertEqual(Stack(tree, squashed).tree(), Stack(tree, layers).tree())

    def test_givers(self):
        stack = Stack(START, LAYERS)
        self.assertEqual(stack.givers(A), [4, 2, 1])
        self.assertEqual(stack.givers(AA), [4])
        self.assertEqual(stack.givers(B), [None])
        self.assertEqual(stack.givers(("b", "b")), [3])
        self.assertEqual(Stack(START, LAYERS[:3]).givers(A), [2, 1])
        self.assertEqual(Stack(START, LAYERS[:3]).givers(AA), [2, 1])
        self.assertEqual(Stack(START, LAYERS[:1]).givers(A), [0, None])
        self.assertEqual(Stack(START).givers(("z",)), [None])
        self.assertEqual(Stack(START, [Layer([(A, FIVE)]), Layer([(A, KEPT)]), Layer([(A, ("opaque", None))])]).givers(A),
                         [2, 1, 0])

    def test_givers_tell_what_a_path_shows(self):
        # [8]: those told suffice, and taking another one out changes nothing there.
        for stack in some_stacks(4):
            tree = stack.tree()
            for path in [A, AA, AB, B]:
                told = stack.givers(path)
                layers = stack.layers()
                words = [model_word(layer, path) for layer in layers]
                wanted = []
                for at in [3, 2, 1, 0]:
                    if wanted and words[wanted[-1]] != KEPT:
                        break
                    wanted += [at] if words[at] != "keep" else []
                wanted += [None] if not wanted or words[wanted[-1]] == KEPT else []
                self.assertEqual(told, wanted)
                start = stack.start() if None in told else Tree()
                shown = Stack(start, [layers[at] for at in sorted(at for at in told if at is not None)])
                self.assertEqual(shown.tree().node(path), tree.node(path))
                for at in range(4):
                    if at not in told:
                        self.assertEqual(stack.shown_without(path, at), tree.node(path))

    def test_shown_without_and_exposed(self):
        for stack in some_stacks(3):
            for at in range(3):
                other = stack.without(at).tree()
                for path in [A, AA, AB, B, ("z",)]:
                    self.assertEqual(stack.shown_without(path, at), other.node(path))
                self.assertEqual(stack.exposed(at), stack.tree().apart(other))
        stack = Stack(START, [Layer([(A, GONE)])])
        self.assertEqual(stack.exposed(0), [A, AB])
        self.assertEqual([stack.shown_without(AB, 0), stack.shown_without(AA, 0)], [FILE, None])
        self.assertEqual((stack | Layer([(A, LINK)])).exposed(0), [])


class TestStackErrors(Checks, unittest.TestCase):

    def test_wrong_start(self):
        for thing in any_values():
            if not isinstance(thing, Tree):
                with self.subTest(thing=thing):
                    self.assertFails(Wrong, "place", 0, Stack, thing)
                    self.assertFails(Wrong, "place", 0, Stack, thing, [Layer()])
                    self.assertFails(Wrong, "place", 0, Stack, thing, thing)
        for thing in [START.rows(), [START], Stack(START), Layer(), (), []]:
            self.assertFails(Wrong, "place", 0, Stack, thing, LAYERS)

    def test_wrong_layers(self):
        for thing in any_values():
            with self.subTest(thing=thing):
                self.assertFails(Wrong, "place", 1, Stack, START, thing)
                if not isinstance(thing, Layer):
                    self.assertFails(Wrong, "place", 1, Stack, START, [Layer(), thing])
        for thing in [Layer(), LAYERS[0].rows(), [LAYERS], (Layer(), [Layer()]), {0: Layer()}, iter(LAYERS), [Tree()],
                      [Layer(), Odd()], [[]], [None] * 8, Stack(START)]:
            self.assertFails(Wrong, "place", 1, Stack, START, thing)

    def test_a_ninth_layer(self):
        self.assertFails(Wrong, "place", 1, Stack, START, [Layer()] * 9)
        self.assertFails(Wrong, "place", 1, Stack, START, (Layer(),) * 19000)
        self.assertFails(Wrong, "place", 0, Stack, None, [Layer()] * 9)

    def test_after(self):
        stack = Stack(START, LAYERS)
        for many in [6, 7, *NUMBERS]:
            self.assertFails(NoLayer, "at", many, stack.after, many)
        self.assertFails(NoLayer, "at", 1, Stack(START).after, 1)
        self.assertFails(NoLayer, "at", True, stack.after, True)

    def test_no_such_layer(self):
        stack = Stack(START, LAYERS)
        for at in [5, 6, *NUMBERS]:
            self.assertFails(NoLayer, "at", at, stack.without, at)
            self.assertFails(NoLayer, "at", at, stack.shown_without, A, at)
            self.assertFails(NoLayer, "at", at, stack.exposed, at)
        for call in [Stack(START).without, Stack(START).exposed]:
            self.assertFails(NoLayer, "at", 0, call, 0)
        self.assertFails(NoLayer, "at", False, stack.without, False)

    def test_squashed(self):
        stack = Stack(START, LAYERS)
        for begin in [6, *NUMBERS]:
            for end in [0, 3, 5, 6, *NUMBERS]:
                self.assertFails(NoLayer, "at", begin, stack.squashed, begin, end)
        for begin in range(6):
            for end in [begin - 1, 0 if begin else -1, 6, *NUMBERS]:
                self.assertFails(NoLayer, "at", end, stack.squashed, begin, end)
        self.assertFails(NoLayer, "at", 1, Stack(START).squashed, 0, 1)


class TestStackStays(unittest.TestCase):

    def test_a_passed_list_is_copied(self):
        layers = list(LAYERS)
        stack = Stack(START, layers)
        layers.pop()
        self.assertEqual([stack.layers(), len(stack)], [LAYERS, 5])

    def test_arguments_stay(self):
        layers, start = list(LAYERS), Tree(START.rows())
        stack = Stack(start, layers)
        stack | layers[0]
        stack.tree()
        self.assertEqual([start, layers, stack.layers()], [START, LAYERS, LAYERS])

    def test_a_returned_list_is_new(self):
        stack = Stack(START, LAYERS)
        for call in [stack.layers, lambda: stack.givers(A), lambda: stack.exposed(4), lambda: stack.givers(("z",))]:
            first = call()
            kept = list(first)
            self.assertIs(first.__class__, list)
            first.append(5)
            first.reverse()
            self.assertEqual(call(), kept)
        self.assertEqual(stack, Stack(START, LAYERS))

    def test_queries_change_nothing(self):
        stack = Stack(START, LAYERS)
        for call in [stack.tree, lambda: stack.after(2), lambda: stack.without(1), lambda: stack.squashed(0, 5)]:
            self.assertEqual([call(), stack], [call(), Stack(START, LAYERS)])


if __name__ == "__main__":
    unittest.main()
