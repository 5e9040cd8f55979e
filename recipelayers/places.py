"""Places: where inputs and arguments may have other values than the told ones."""

from recipelayers.finding import Answers
from recipelayers.kinds import is_folder
from recipelayers.nodes import content_of
from recipelayers.paths import begins_with
from recipelayers.trees import Tree


class Places:
    """Told inputs, and the places at which they and the arguments may have other values."""

    def __init__(self, inputs, places):
        self._inputs = {name: inputs[name] for name in inputs}
        self._wholes = [place[1:] for place in places if place[0] == "all" and self._may_stand(place[1:])]
        self._contents = [place[1:] for place in places if place[0] == "content" and self._is_file(place[1:])]
        self._arguments = [place[1] for place in places if place[0] == "arg"]
        self._paths = [place[1:] for place in places if place[0] != "arg"]

    def free_arguments(self):
        """The names of the arguments that may be others."""
        return list(self._arguments)

    def wholes(self):
        """The tuples (input, path) at and beneath which there may be anything."""
        return list(self._wholes)

    def contents(self):
        """The tuples (input, path) of the files of which the content may be another one."""
        return list(self._contents)

    def told_tree(self, name):
        """The told Tree of an input."""
        return self._inputs.get(name, Tree())

    def is_free(self, name, path):
        """Whether an input may have anything at a path, as far as there may be something."""
        return any([name == free and begins_with(path, top) for free, top in self._wholes])

    def known_paths(self, name):
        """The paths of the rows of a told input and of the places in it, also of those that bring nothing."""
        return self.told_tree(name).paths() + [path for told, path in self._paths if told == name]

    def all_paths(self):
        """The paths of all rows of all told inputs and of all places."""
        told = [path for tree in self._inputs.values() for path in tree.paths()]
        return told + [path for _, path in self._paths]

    def _may_stand(self, place):
        """Whether something may stand at the path of a tuple (input, path), as its parent is the root or a folder."""
        name, path = place
        return len(path) <= 1 or is_folder(self.told_tree(name).node(path[:-1]))

    def _is_file(self, place):
        """Whether the told input has a file at the path of a tuple (input, path)."""
        name, path = place
        return content_of(self.told_tree(name).node(path)) is not None


class Changing:
    """A world of told inputs that have what answers say where there may be anything."""

    def __init__(self, places, answers):
        self._places = places
        self._answers = Answers(answers)

    def shows(self, name, path):
        """The described node that an input has at a path if all above it are folders."""
        if self._places.is_free(name, path):
            return self._answers.shows(name, path)
        node = self._places.told_tree(name).node(path)
        if (name, path) in self._places.contents():
            return ("file", ("of", name, path), node[2])
        return node
