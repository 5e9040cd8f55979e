"""What the trees of recipes have at paths, found from the last step back, whatever the inputs have."""

from recipelayers.errors import LayerError
from recipelayers.kinds import is_folder
from recipelayers.nodes import with_rights
from recipelayers.paths import above, begins_with, lies_beneath
from recipelayers.stepparts import path_of
from recipelayers.steps import read_of

PASSED = "passed"


class Unanswered(LayerError):
    """An input has to be asked at a path."""

    def __init__(self, name, path):
        self.name = name
        self.path = path


class Answers:
    """A world of inputs that have what answers say."""

    def __init__(self, answers):
        self._answers = answers

    def shows(self, name, path):
        """The described node that an input has at a path if all above it are folders."""
        if (name, path) not in self._answers:
            raise Unanswered(name, path)
        return described(self._answers[(name, path)], ("of", name, path))


class Finder:
    """Finds described nodes in the trees of a recipe, in the world to which it is turned."""

    def __init__(self, recipe, world):
        self._starts = {name: start for name, start, _ in recipe.stages()}
        self._steps = {name: steps for name, _, steps in recipe.stages()}
        self._last = recipe.last()
        self._world = world
        self._answered = 0
        self._found = {}
        self._order = []

    def turn_to(self, world, answered):
        """Go on in a world with this many answers.

        Of the worlds with fewer answers, the last one that was turned to for each number has to
        have the same first answers: what was found there holds here, too, and is not sought again.
        """
        while len(self._order) > 0 and self._order[-1][0] >= answered:
            _, key = self._order.pop()
            del self._found[key]
        self._world = world
        self._answered = answered

    def value(self, path):
        """The same as told_or_asked, of the tree of the recipe."""
        return self.told_or_asked(self._last, len(self._steps[self._last]), path)

    def told_or_asked(self, name, many, path):
        """("told", node) with what is found by ahead, or ("ask", input, path) with the first open question."""
        try:
            return ("told", self.ahead(name, many, path))
        except Unanswered as asked:
            return ("ask", asked.name, asked.path)

    def behind(self, name, path):
        """The described node at a path of the tree of a stage or of an input."""
        if name in self._steps:
            return self.ahead(name, len(self._steps[name]), path)
        return brought(self._world, name, path)

    def ahead(self, name, many, path):
        """The described node at a path of the tree that a stage has behind its first many steps."""
        key = (name, many, path)
        if key not in self._found:
            self._found[key] = self._sought(name, many, path)
            self._order.append((self._answered, key))
        return self._found[key]

    def _sought(self, name, many, path):
        """The same, not looked up."""
        for at in reversed(range(many)):
            told = self._left(name, at, path)
            if told != PASSED:
                return told
        start = self._starts[name]
        return None if start is None else self.behind(start, path)

    def _left(self, name, at, path):
        """What a step leaves at a path, or PASSED."""
        step = self._steps[name][at]
        kind, place = step[0], path_of(step)
        if kind == "copy":
            return self._copied(name, at, path)
        if kind == "delete" or kind == "clear":
            taken = lies_beneath(path, place) or (kind == "delete" and path == place)
            return None if taken else PASSED
        if path == place:
            return self._put(name, at)
        if kind == "rights":
            return PASSED
        if lies_beneath(place, path):
            return self._folder(name, at, path)
        return None if lies_beneath(path, place) and kind != "folder" else PASSED

    def _copied(self, name, at, path):
        """What a copy leaves at a path, or PASSED."""
        _, source, origin, place = self._steps[name][at]
        if lies_beneath(place, path) or (path == place and origin == ()):
            return self._folder(name, at, path)
        if not begins_with(path, place):
            return PASSED
        rest = path[len(place):]
        first = origin if place != () else origin + rest[:1]
        if first != () and self.behind(source, first) is None:
            return PASSED
        return self.behind(source, origin + rest)

    def _folder(self, name, at, path):
        """The folder that is at a path before a step, which makes it if there is none."""
        node = self.ahead(name, at, path)
        return node if is_folder(node) else ("folder", 5)

    def _put(self, name, at):
        """The described node that a step other than a copy leaves at its path."""
        step = self._steps[name][at]
        if step[0] == "write":
            return ("file", step[2], step[3])
        if step[0] == "rights":
            return with_rights(self.ahead(name, at, step[1]), step[2])
        if step[0] == "run":
            return ("file", ("made", step[1], tuple([self._part(name, at, read) for read in step[2]])), 5)
        return (step[0], step[2])

    def _part(self, name, at, read):
        """The part that a run has for one of its reads."""
        if read[0] == "path":
            return read_of("run", self.ahead(name, at, read[1]))
        return read if read[0] == "arg" else read[1]


def brought(world, name, path):
    """The described node that an input has at a path in a world, asked at the paths above it first."""
    for shorter in above(path):
        if not is_folder(world.shows(name, shorter)):
            return None
    return world.shows(name, path)


def described(answer, unknown):
    """The described node that an answer tells, with this unknown in it."""
    if answer == "none":
        return None
    return ("file", unknown, unknown) if answer == "file" else (answer, unknown)
