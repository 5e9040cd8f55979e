"""Which steps write other layers if inputs or arguments change at places."""

from recipelayers.errors import NoStep
from recipelayers.kinds import is_integer
from recipelayers.nodes import texts_of
from recipelayers.paths import begins_with
from recipelayers.places import Places
from recipelayers.stepparts import texts_told
from recipelayers.studies import Study
from recipelayers.trees import Tree
from recipelayers.unknowns import nodes_for, unused_texts


def stale(recipe, inputs, arguments, places, *, limit=400):
    """The tuples (name, at) of the steps that write another layer with some values at the places, in order."""
    study = Study(recipe, inputs, arguments, places)
    indexes = [(name, at) for name, _, steps in recipe.stages() for at in range(len(steps))]
    return [(name, at) for name, at in indexes if study.way(name, at, limit) is not None]


def shown(recipe, inputs, arguments, places, name, at, *, limit=400):
    """Inputs and arguments with which a step writes another layer, or None if it is not stale."""
    steps = recipe.steps(name)
    if not is_integer(at) or not 0 <= at < len(steps):
        raise NoStep(at)
    way = Study(recipe, inputs, arguments, places).way(name, at, limit)
    if way is None:
        return None
    return changed(recipe, inputs, arguments, Places(inputs, places), way)


def changed(recipe, inputs, arguments, places, way):
    """The inputs and arguments with all that a way tells; what places bring besides is new."""
    cleared, rows, rights = way
    files, names = places.contents(), places.free_arguments()
    texts = unused_texts(len(rows) + len(files) + len(names), told_texts(recipe, inputs, arguments))
    contents = {file: text for file, text in zip(files, texts[len(rows):])}
    built = {name: kept_rows(name, inputs[name], cleared, contents) for name in inputs}
    for name, path, node in nodes_for(rows, texts, rights):
        built.setdefault(name, []).append((path, node))
    brought = {name: text for name, text in zip(names, texts[len(rows) + len(files):])}
    return ({name: Tree(built[name]) for name in built}, {**arguments, **brought})


def kept_rows(name, tree, cleared, contents):
    """The rows of a told input that stay, with new contents of files."""
    kept = []
    for path, node in tree.rows():
        if (name, path) in contents:
            node = ("file", contents[(name, path)], node[2])
        if not any([name == other and begins_with(path, top) for other, top in cleared]):
            kept.append((path, node))
    return kept


def told_texts(recipe, inputs, arguments):
    """All texts in told inputs, arguments and steps."""
    found = [text for tree in inputs.values() for _, node in tree.rows() for text in texts_of(node)]
    steps = [step for _, _, told in recipe.stages() for step in told]
    return found + list(arguments.values()) + [text for step in steps for text in texts_told(step)]
