"""Trees that part layers."""

from recipelayers.paths import either, unused_name
from recipelayers.trees import Tree


def apart(one, other):
    """None if two Layers are equal, or a Tree with the fewest rows of which they make unlike trees."""
    if one == other:
        return None
    bare = Tree()
    if (bare | one) != (bare | other):
        return bare
    # Their words are "keep" and "gone" there, or ("folder", None) and ("folder", 5): this node shows both.
    return Tree.chain(parting_path(one, other), ("folder", 7))


def parting_path(one, other):
    """The least of the shortest paths at which two Layers that are not equal have different words."""
    paths = entry_paths([one, other])
    name = unused_name(paths)
    # Where there is no entry, words differ only by what hides: beneath a path with an entry by a new name, too.
    paths = either(paths, [(*path, name) for path in paths])
    return min([path for path in paths if one.word(path) != other.word(path)], key=len)


def entry_paths(layers):
    """The paths at which some of these Layers has an entry, in ascending order."""
    return sorted({path for layer in layers for path, _ in layer.rows()})
