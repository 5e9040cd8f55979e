"""Trees: what stands at each path."""

from recipelayers.errors import NoFolder, Wrong
from recipelayers.kinds import is_folder, is_node, stands
from recipelayers.paths import are_rows, either, in_order, lies_beneath


class Tree:
    """A node at each of finitely many paths; the parent of each is the root or a folder."""

    def __init__(self, rows=()):
        if not are_node_rows(rows):
            raise Wrong(0)
        nodes = in_order(rows)
        for path in nodes:
            if len(path) > 1 and not is_folder(nodes.get(path[:-1])):
                raise NoFolder(path)
        self._nodes = nodes

    @classmethod
    def chain(cls, path, node):
        """The Tree with a node at a path and folders above it."""
        folders = [(path[:many], ("folder", 5)) for many in range(1, len(path))]
        return cls([*folders, (path, node)])

    def __eq__(self, other):
        return isinstance(other, Tree) and self._nodes == other._nodes

    def __len__(self):
        return len(self._nodes)

    def __repr__(self):
        return f"Tree({self.rows()!r})"

    def __contains__(self, path):
        return path in self._nodes

    def __or__(self, other):
        """The Tree that a layer, the other one, makes of this one."""
        nodes = []
        for path in either(self.paths(), [path for path, _ in other.rows()]):
            node = stands(other.word(path), self.node(path))
            if node is not None:
                nodes.append((path, node))
        return Tree(nodes)

    def rows(self):
        """The tuples (path, node), in ascending order."""
        return [(path, node) for path, node in self._nodes.items()]

    def paths(self):
        """The paths that have a node, in ascending order."""
        return list(self._nodes)

    def node(self, path):
        """The node at a path, or None."""
        return self._nodes.get(path)

    def names(self, path):
        """The last names of the paths whose parent is this path, in ascending order."""
        return [longer[-1] for longer in self._nodes if longer[:-1] == path]

    def under(self, path):
        """The rows beneath a path, with what their paths have after it, in ascending order."""
        many = len(path)
        return [(longer[many:], node) for longer, node in self._nodes.items() if lies_beneath(longer, path)]

    def apart(self, other):
        """The paths, in ascending order, at which two Trees do not have the same."""
        return [path for path in either(self.paths(), other.paths()) if self.node(path) != other.node(path)]


def are_node_rows(thing):
    """Whether thing is what a Tree is made of, but for folders that may be missing."""
    return are_rows(thing) and all([is_node(node) for _, node in thing])
