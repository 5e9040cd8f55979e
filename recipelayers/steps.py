"""Steps: what they are, what they read and what they write."""

from recipelayers.kinds import is_name, is_path, is_rights, is_tagged, is_text
from recipelayers.layers import Layer
from recipelayers.nodes import content_of
from recipelayers.paths import above
from recipelayers.stepparts import arguments_in, path_of, with_texts

MOST_NAMES = 4
MOST_READS = 3


def is_step(thing):
    """Whether thing is a step."""
    if is_tagged(thing, "write", 4):
        return is_place(thing[1]) and is_told_text(thing[2]) and is_rights(thing[3])
    if is_tagged(thing, "folder", 3) or is_tagged(thing, "rights", 3):
        return is_place(thing[1]) and is_rights(thing[2])
    if is_tagged(thing, "link", 3):
        return is_place(thing[1]) and is_told_text(thing[2])
    if is_tagged(thing, "delete", 2) or is_tagged(thing, "clear", 2):
        return is_place(thing[1])
    if is_tagged(thing, "copy", 4):
        return is_name(thing[1]) and is_short_path(thing[2]) and is_short_path(thing[3])
    return is_tagged(thing, "run", 4) and is_name(thing[1]) and are_reads(thing[2]) and is_place(thing[3])


def argued(step, arguments):
    """The step with the texts of arguments, a dict by names, in place of ("arg", name)."""
    return with_texts(step, {name: arguments.get(name, "") for name in arguments_in(step)})


def reading(step, tree, source):
    """What a step without ("arg", name) reads of the Tree before it and, if it is a copy, of that of its source."""
    if step[0] == "copy":
        return copied(step, source)
    if step[0] == "rights":
        return read_of("rights", tree.node(step[1]))
    if step[0] == "run":
        return tuple([part_read(read, tree) for read in step[2]])
    return None


def written(step, reading):
    """The Layer that a step without ("arg", name) writes if this is its reading."""
    path = path_of(step)
    if step[0] == "delete":
        return Layer([(path, ("gone",))])
    if step[0] == "clear":
        return Layer([(path, ("cleared",))])
    if step[0] == "copy":
        return Layer([*folders_above(path), *rows_copied(step, reading)])
    if step[0] == "rights" and reading is None:
        return Layer()
    return Layer([*folders_above(path), (path, node_put(step, reading))])


def read_of(kind, node):
    """What a step of this kind reads of the node, or None for nothing, at a path that it reads."""
    if kind == "run":
        return content_of(node)
    if kind == "copy" or node is None:
        return node
    # What else has rights to be read is told without them, as others are put.
    return None if node[0] == "link" else node[:-1]


def is_short_path(thing):
    """Whether thing is a path as a copy may have it."""
    return is_path(thing) and len(thing) <= MOST_NAMES


def is_place(thing):
    """Whether thing is a path as every step may have it."""
    return is_short_path(thing) and len(thing) > 0


def is_told_text(thing):
    """Whether thing is a text or tells the argument that it is of."""
    return is_text(thing) or is_argument(thing)


def is_argument(thing):
    """Whether thing tells the text of an argument."""
    return is_tagged(thing, "arg", 2) and is_name(thing[1])


def are_reads(thing):
    """Whether thing is what a run may read."""
    return isinstance(thing, tuple) and len(thing) <= MOST_READS and all([is_read(read) for read in thing])


def is_read(thing):
    """Whether thing is one of what a run may read."""
    if is_tagged(thing, "path", 2):
        return is_place(thing[1])
    return is_argument(thing) or (is_tagged(thing, "text", 2) and is_text(thing[1]))


def part_read(read, tree):
    """The part that a run has for one of its reads."""
    return read_of("run", tree.node(read[1])) if read[0] == "path" else read[1]


def copied(step, source):
    """The tuples (rest, node) of what a copy reads of a Tree, in ascending order."""
    rows = source.under(step[2])
    node = source.node(step[2])
    # Nothing is ever written at the root, so the node that would stand there is not read.
    return rows if node is None or step[3] == () else [((), node), *rows]


def rows_copied(step, rows):
    """The rows of the entries that a copy writes, but for the folders above."""
    origin, path = step[2], step[3]
    top = [(path, ("opaque", None))] if origin == () and path != () else []
    return top + [(path + rest, entry_copied(node)) for rest, node in rows]


def entry_copied(node):
    """The entry that a copy writes for a node: a folder takes away what stood beneath it."""
    # All folders may be told so, as beneath an opaque entry a layer writes them as folders.
    return ("opaque", node[1]) if node[0] == "folder" else node


def node_put(step, told):
    """The node that a step other than a copy puts if this is its reading."""
    if step[0] == "write":
        return ("file", step[2], step[3])
    if step[0] == "run":
        return ("file", ("made", step[1], told), 5)
    if step[0] == "rights":
        return (*told, step[2])
    return (step[0], step[2])


def folders_above(path):
    """The rows of the entries that keep or make folders above a path."""
    return [(shorter, ("folder", None)) for shorter in above(path)]
