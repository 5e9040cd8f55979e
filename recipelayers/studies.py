"""How places make steps write other layers."""

from recipelayers.errors import TooMany
from recipelayers.finding import Finder
from recipelayers.paths import begins_with, lies_beneath, unused_name, with_above
from recipelayers.places import Changing, Places
from recipelayers.recipes import Recipe
from recipelayers.relevance import relevant_paths, step_paths, with_fresh
from recipelayers.runs import Run
from recipelayers.stepparts import arguments_in, path_of, paths_read, source_of, with_texts
from recipelayers.steps import read_of
from recipelayers.unknowns import parting_rights
from recipelayers.walks import all_leaves, as_answers, rows_of


class Study:
    """A recipe with told inputs and arguments, and places at which these may be others.

    A way is a tuple (cleared, rows, rights) that makes a step write another layer: whatever the
    told inputs have at and beneath the tuples (input, path) of cleared goes, and nodes of the
    tuples (input, path, kind) of rows come, with rights by their questions (input, path), where
    these matter. All that places bring besides has to be new.
    """

    def __init__(self, recipe, inputs, arguments, places):
        self._recipe = recipe
        self._run = Run(recipe, inputs, arguments)
        self._places = Places(inputs, places)
        self._texted = with_known_texts(recipe, arguments, self._places.free_arguments())
        known = {name: with_above(self._places.known_paths(name)) for name in recipe.inputs()}
        self._relevant = relevant_paths(recipe, known)
        self._fresh = unused_name(step_paths(recipe) + self._places.all_paths())

    def way(self, name, at, limit):
        """A way for a step of a stage, or None if it is not stale."""
        step = self._recipe.steps(name)[at]
        if any([argument in self._places.free_arguments() for argument in arguments_in(step)]):
            return ([], [], {})
        if source_of(step) in self._recipe.inputs():
            return self._way_of_copy(step)
        partings = self._partings(self._looked_at(name, at), step[0], limit)
        if len(partings) == 0:
            return None
        leaf, node, now = partings[0]
        return (self._places.wholes(), rows_of(leaf), parting_rights(node, now))

    def may_end_otherwise(self, limit):
        """Whether some values at the places make another tree of the recipe."""
        name = self._recipe.last()
        many = len(self._recipe.steps(name))
        paths = with_fresh(self._relevant[name], self._fresh)
        looked = [(name, many, path) for path in paths if path != ()]
        # All of a node matters at the end, as it does to a copy.
        return len(self._partings(looked, "copy", limit)) > 0

    def _way_of_copy(self, step):
        """A way for a copy from an input, or None."""
        _, source, origin, path = step
        for name, top in self._places.wholes():
            if name == source and (begins_with(origin, top) or begins_with(top, origin)):
                return ([(name, top)], chain_rows(name, top, origin), {})
        for name, told in self._places.contents():
            if name == source and (lies_beneath(told, origin) or (told == origin and path != ())):
                return ([], [], {})
        return None

    def _looked_at(self, name, at):
        """The tuples (stage, many, path) of what a step reads: a path of the tree behind many steps of a stage."""
        step = self._recipe.steps(name)[at]
        source = source_of(step)
        if source is None:
            return [(name, at, path) for path in paths_read(step)]
        origin = step[2]
        paths = [origin, *[path for path in self._relevant[source] if lies_beneath(path, origin)]]
        # A copy to the root does not read what stands at q itself.
        unread = origin if path_of(step) == () else ()
        many = len(self._recipe.steps(source))
        return [(source, many, path) for path in with_fresh(paths, self._fresh) if path != unread]

    def _partings(self, looked, kind, limit):
        """The tuples (leaf, node, now) of what a step of this kind reads and would not read now."""
        found = []
        left = limit
        for name, many, path in looked:
            leaves = self._leaves(name, many, path, left)
            if leaves is None:
                raise TooMany(limit)
            left = left - len(leaves)
            now = self._run.before(many, name).node(path)
            found.extend([(leaf, node, now) for leaf, node in leaves if read_of(kind, node) != read_of(kind, now)])
        return found

    def _leaves(self, name, many, path, most):
        """The tuples (leaf, node) of the walk at a path behind many steps of a stage, or None if more than most."""
        finder = Finder(self._texted, Changing(self._places, {}))
        return all_leaves(lambda leaf: self._seen(finder, leaf, (name, many, path)), most)

    def _seen(self, finder, leaf, where):
        """("told", node) with the described node that is found there, or the first question without an answer."""
        finder.turn_to(Changing(self._places, as_answers(leaf)), len(leaf))
        return finder.told_or_asked(where[0], where[1], where[2])


def with_known_texts(recipe, arguments, free):
    """The Recipe with the texts of arguments in place of all but those of which the names are free."""
    texts = {name: arguments.get(name, "") for name in recipe.arguments() if name not in free}
    stages = recipe.stages()
    return Recipe([(name, start, [with_texts(step, texts) for step in steps]) for name, start, steps in stages])


def chain_rows(name, top, origin):
    """The rows (input, path, kind), from top on, that show beneath origin a file at or beneath top."""
    goal = top if lies_beneath(top, origin) else (*origin, "a")
    folders = [(name, goal[:many], "folder") for many in range(max(1, len(top)), len(goal))]
    return [*folders, (name, goal, "file")]
