"""Runs: what a recipe makes of inputs and arguments."""

from recipelayers.errors import NoStage, NoStep, Wrong
from recipelayers.kinds import is_integer, is_name, is_text
from recipelayers.recipes import Recipe
from recipelayers.stacks import Stack
from recipelayers.stepparts import source_of
from recipelayers.steps import argued, reading, written
from recipelayers.trees import Tree


class Run:
    """A Recipe that is run: the layers, the readings and the trees of its stages."""

    def __init__(self, recipe, inputs, arguments):
        if not isinstance(recipe, Recipe):
            raise Wrong(0)
        if not are_inputs(inputs):
            raise Wrong(1)
        if not are_arguments(arguments):
            raise Wrong(2)
        self._last = recipe.last()
        self._inputs = {name: inputs[name] for name in inputs}
        self._made = {name: [] for name, _, _ in recipe.stages()}
        for name, at, step, told, layer in moments(recipe, inputs, arguments):
            self._made[name].append((at, step, told, layer))
        self._trees = {}
        for name, start, _ in recipe.stages():
            ends = {earlier: trees[-1] for earlier, trees in self._trees.items()}
            stack = Stack(named_tree(start, ends, inputs), [layer for _, _, _, layer in self._made[name]])
            trees = list(stack.walk())
            self._trees[name] = trees

    def tree(self, name=None):
        """The Tree behind a stage."""
        return self._trees[self._stage(name)][-1]

    def before(self, at, name=None):
        """The Tree before the step with an index, or behind the last one."""
        trees = self._trees[self._stage(name)]
        if not is_integer(at) or not 0 <= at < len(trees):
            raise NoStep(at)
        return trees[at]

    def layers(self, name=None):
        """The list of the Layers of the steps of a stage."""
        return [layer for _, _, _, layer in self._made[self._stage(name)]]

    def readings(self, name=None):
        """The list of the readings of the steps of a stage."""
        return [copied_reading(told) for _, _, told, _ in self._made[self._stage(name)]]

    def stack(self, name=None):
        """The Stack of the start of a stage and its layers."""
        return Stack(self.before(0, name), self.layers(name))

    def plain_steps(self, name=None):
        """The list of the steps of a stage, without arguments."""
        return [step for _, step, _, _ in self._made[self._stage(name)]]

    def source(self, step):
        """The Tree of the source of a step; the empty one if it is no copy."""
        ends = {name: trees[-1] for name, trees in self._trees.items()}
        return named_tree(source_of(step), ends, self._inputs)

    def pairs(self):
        """The tuples (name, at, step, reading) of all steps in order, the steps without arguments."""
        return [(name, at, step, copied_reading(told))
                for name, made in self._made.items() for at, step, told, _ in made]

    def _stage(self, name):
        """The name of the stage that is meant, the last one's for None."""
        if name is None:
            return self._last
        if name not in self._trees:
            raise NoStage(name)
        return name


def moments(recipe, inputs, arguments):
    """The tuples (name, at, step, reading, layer) of all steps in order, the steps without arguments."""
    ends = {}
    for name, start, steps in recipe.stages():
        tree = named_tree(start, ends, inputs)
        for at, step in enumerate(steps):
            plain = argued(step, arguments)
            told = reading(plain, tree, named_tree(source_of(plain), ends, inputs))
            layer = written(plain, told)
            tree = tree | layer
            yield name, at, plain, told, layer
        ends[name] = tree


def named_tree(name, ends, inputs):
    """The Tree of an earlier stage, or of an input; the empty one for None and for an input that is missing."""
    return ends[name] if name in ends else inputs.get(name, Tree())


def copied_reading(told):
    """A reading that the caller may change."""
    return list(told) if isinstance(told, list) else told


def are_inputs(thing):
    """Whether thing is a dict from names to Trees."""
    return isinstance(thing, dict) and all([is_name(name) and isinstance(tree, Tree) for name, tree in thing.items()])


def are_arguments(thing):
    """Whether thing is a dict from names to texts."""
    return isinstance(thing, dict) and all([is_name(name) and is_text(text) for name, text in thing.items()])
