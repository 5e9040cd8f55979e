"""What it takes to make one tree of another, path by path."""

from recipelayers.kinds import is_folder
from recipelayers.paths import by_parent, either
from recipelayers.words import weight_of


class Change:
    """What the least layers from a tree, the lower one, to another one, the upper one, weigh and say."""

    def __init__(self, lower, upper):
        self._lower = lower
        self._upper = upper
        paths = either(lower.paths(), upper.paths())
        self._longer = by_parent(paths)
        self._takes = {}
        self._puts = {}
        # From the last path on, as the numbers of a path rest on those of the longer ones.
        for path in reversed(paths):
            self._takes[path] = self._take(path)
            self._puts[path] = self._put(path)

    def numbers(self):
        """The tuples (path, take, put), in ascending order."""
        return [(path, self._takes[path], self._puts[path]) for path in sorted(self._takes)]

    def least_beneath(self, path):
        """The least weight of the entries that make what stands beneath a path."""
        return sum([lesser(self._takes[longer], self._puts[longer]) for longer in self._longer[path]])

    def entries_beneath(self, path):
        """The rows of such entries."""
        return [row for longer in self._longer[path] for row in self._entries_at(longer)]

    def _take(self, path):
        """The least weight of gone and cleared entries at and beneath a path, or None."""
        old, new = self._lower.node(path), self._upper.node(path)
        takes = [self._takes[longer] for longer in self._longer[path]]
        if old == new and all([take == 0 for take in takes]):
            return 0
        if new is None:
            return 1
        if old != new:
            return None
        # Only folders are left: other equal nodes have nothing beneath, so they are the same.
        if self._is_bare(path):
            return 1
        return None if None in takes else sum(takes)

    def _put(self, path):
        """The least weight of entries at and beneath a path, if the path itself has one that puts, or None."""
        new = self._upper.node(path)
        if new is None:
            return None
        full = sum([weight_of(node) for _, node in self._upper.under(path)])
        if self._stay_folders(path):
            return 1 + min(full, self.least_beneath(path))
        return full + weight_of(new)

    def _is_bare(self, path):
        """Whether upper has nothing beneath a path."""
        return len(self._upper.names(path)) == 0

    def _stay_folders(self, path):
        """Whether both trees have folders at a path."""
        return is_folder(self._lower.node(path)) and is_folder(self._upper.node(path))

    def _entries_at(self, path):
        """The rows of the entries of least weight at and beneath a path."""
        if self._takes[path] == lesser(self._takes[path], self._puts[path]):
            return self._taking(path)
        return self._putting(path)

    def _taking(self, path):
        """The rows of the gone and cleared entries that the take of a path counts."""
        if self._takes[path] == 0:
            return []
        if self._upper.node(path) is None:
            return [(path, ("gone",))]
        if self._is_bare(path):
            return [(path, ("cleared",))]
        return [row for longer in self._longer[path] for row in self._taking(longer)]

    def _putting(self, path):
        """The rows of the entries that the put of a path counts."""
        node = self._upper.node(path)
        whole = [(path + rest, inner) for rest, inner in self._upper.under(path)]
        if not self._stay_folders(path):
            return [(path, node), *whole]
        if self._puts[path] == 1 + self.least_beneath(path):
            return [(path, node), *self.entries_beneath(path)]
        return [(path, ("opaque", node[1])), *whole]


def lesser(take, put):
    """The lesser of two numbers, of which one may be None."""
    if take is None or put is None:
        return put if take is None else take
    return min(take, put)
