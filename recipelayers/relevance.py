"""The paths at which what a recipe makes has to be looked at, for all other paths to follow."""

from recipelayers.paths import begins_with, with_above
from recipelayers.stepparts import path_of, paths_in


def relevant_paths(recipe, known):
    """The relevant paths of all stages, by their names; those of what else counts as a stage are known.

    They are ascending, and the root is one of them.
    """
    found = {name: known[name] for name in known}
    for name, start, steps in recipe.stages():
        paths = [path_of(step) for step in steps] + found.get(start, [])
        for _, source, origin, place in [step for step in steps if step[0] == "copy"]:
            copied = [path for path in found.get(source, []) if begins_with(path, origin)]
            paths = paths + [place + path[len(origin):] for path in copied]
        found[name] = [(), *with_above(paths)]
    return found


def with_fresh(paths, name):
    """These paths and that with a fresh name beneath each of them, in ascending order."""
    return sorted(paths + [(*path, name) for path in paths])


def step_paths(recipe):
    """All paths that stand in the steps of a recipe."""
    return [path for _, _, steps in recipe.stages() for step in steps for path in paths_in(step)]
