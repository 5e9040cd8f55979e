"""The layers of a run, laid on another tree than that on which they were made."""

from recipelayers.steps import reading, written


def rebase(run, start):
    """The Tree that the layers of the last stage make of start, the clashes of readings, and where the trees differ.

    It is compared with what the steps themselves make of start; the path at which both differ first may be None.
    """
    tree = start
    other = start
    clashes = []
    for at, (step, told, layer) in enumerate(zip(run.plain_steps(), run.readings(), run.layers())):
        there = reading(step, other, run.source(step))
        if there != told:
            clashes.append((at, told, there))
        tree = tree | layer
        other = other | written(step, there)
    paths = tree.apart(other)
    return (tree, clashes, paths[0] if len(paths) > 0 else None)
