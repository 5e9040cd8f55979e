"""Whether two recipes make equal trees of all inputs and arguments."""

from recipelayers.errors import TooMany
from recipelayers.finding import Answers, Finder
from recipelayers.kinds import is_plain
from recipelayers.papers import is_list_of_pairs, is_told
from recipelayers.paths import unused_name
from recipelayers.relevance import relevant_paths, step_paths, with_fresh
from recipelayers.stepparts import texts_told
from recipelayers.trees import Tree
from recipelayers.unknowns import nodes_for, parting_rights, unused_texts
from recipelayers.walks import all_leaves, as_answers, rows_of


class Joint:
    """The joint walk of recipes at a path."""

    def __init__(self, recipes, path):
        self._finders = [Finder(recipe, Answers({})) for recipe in recipes]
        self._path = path

    def look(self, leaf):
        """("told", nodes) with the described nodes of the recipes, or the first question that one needs."""
        world = Answers(as_answers(leaf))
        # All are asked, also where an earlier one has a question: they go on later from what they found by then.
        told = [self._value(finder, world, len(leaf)) for finder in self._finders]
        for some in told:
            if some[0] == "ask":
                return some
        return ("told", tuple([node for _, node in told]))

    def _value(self, finder, world, answered):
        """("told", node) with what a recipe has in a world with this many answers, or its first question."""
        finder.turn_to(world, answered)
        return finder.value(self._path)


def fresh(one, other):
    """The first name that stands in no path of the steps of two Recipes."""
    return unused_name(step_paths(one) + step_paths(other))


def relevant(one, other):
    """The paths at which two Recipes have to be looked at, in ascending order."""
    paths = sorted({path for recipe in [one, other] for path in relevant_paths(recipe, {})[recipe.last()]})
    return [path for path in with_fresh(paths, fresh(one, other)) if path != ()]


def compare_at(one, other, path, *, limit=400):
    """("alike", leaves) if two Recipes always have the same at a path, otherwise ("parted", inputs, arguments)."""
    leaves = joint_leaves(one, other, path, limit)
    if leaves is None:
        raise TooMany(limit)
    partings = partings_at(path, leaves)
    if len(partings) == 0:
        return ("alike", told_once(leaves))
    inputs, arguments = parting_values(one, other, min(partings, key=burden))
    return ("parted", inputs, arguments)


def compare(one, other, *, limit=2000):
    """("alike", paper) if two Recipes always make equal trees, otherwise ("parted", inputs, arguments, path)."""
    found = []
    left = limit
    for path in relevant(one, other):
        leaves = joint_leaves(one, other, path, left)
        if leaves is None:
            raise TooMany(limit)
        left = left - len(leaves)
        found.append((path, leaves))
    partings = [parting for path, leaves in found for parting in partings_at(path, leaves)]
    if len(partings) == 0:
        return ("alike", [(path, told_once(leaves)) for path, leaves in found])
    least = min(partings, key=burden)
    inputs, arguments = parting_values(one, other, least)
    return ("parted", inputs, arguments, least[0])


def is_alike(one, other, thing):
    """Whether thing is a paper that shows that two Recipes make equal trees of all inputs and arguments."""
    paths = relevant(one, other)
    if not is_list_of_pairs(thing) or len(thing) != len(paths):
        return False
    for path, (told, leaves) in zip(paths, thing):
        if not is_plain(told, path) or not is_told([one, other], path, leaves):
            return False
    return True


def joint_leaves(one, other, path, most):
    """The tuples (leaf, nodes) of the joint walk at a path, with both described nodes, or None if more than most."""
    joint = Joint([one, other], path)
    return all_leaves(joint.look, most)


def told_once(leaves):
    """The tuples (leaf, node) for leaves at which both nodes are equal."""
    return [(leaf, nodes[0]) for leaf, nodes in leaves]


def partings_at(path, leaves):
    """The tuples (path, leaf, nodes) for the leaves at which the nodes are not equal."""
    return [(path, leaf, nodes) for leaf, nodes in leaves if nodes[0] != nodes[1]]


def burden(parting):
    """What the least of several partings is found by."""
    path, leaf, _ = parting
    rows = rows_of(leaf)
    return (len(rows), rows, path)


def parting_values(one, other, parting):
    """The inputs and arguments with which two Recipes have unlike nodes at the path of a parting."""
    _, leaf, (node, other_node) = parting
    rows = rows_of(leaf)
    names = sorted(set(one.arguments() + other.arguments()))
    # All texts differ from one another and from those of the steps, so that unlike contents stay unlike.
    texts = unused_texts(len(rows) + len(names), step_texts(one) + step_texts(other))
    arguments = {name: text for name, text in zip(names, texts[len(rows):])}
    inputs = {}
    for name, path, made in nodes_for(rows, texts, parting_rights(node, other_node)):
        inputs.setdefault(name, []).append((path, made))
    return ({name: Tree(inputs[name]) for name in inputs}, arguments)


def step_texts(recipe):
    """All texts that stand in the steps of a recipe."""
    return [text for _, _, steps in recipe.stages() for step in steps for text in texts_told(step)]
