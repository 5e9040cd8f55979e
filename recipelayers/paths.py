"""Paths, the rows that stand at them, and names that are not in use."""

from recipelayers.kinds import LETTERS, is_path


def are_rows(thing):
    """Whether thing is a list or a tuple of pairs that begin with different paths, none of them the root."""
    if not isinstance(thing, (list, tuple)) or not all([is_row(row) for row in thing]):
        return False
    return len({path for path, _ in thing}) == len(thing)


def is_row(thing):
    """Whether thing is a pair that begins with a path other than the root."""
    return isinstance(thing, tuple) and len(thing) == 2 and is_path(thing[0]) and len(thing[0]) > 0


def in_order(rows):
    """What rows tell, as a dict with the paths in ascending order."""
    return {path: thing for path, thing in sorted(rows)}


def either(some, others):
    """The paths of two lists, each once, in ascending order."""
    return sorted(set(some + others))


def lies_beneath(path, top):
    """Whether a path lies beneath another one."""
    return len(path) > len(top) and path[:len(top)] == top


def begins_with(path, top):
    """Whether a path is another one or lies beneath it."""
    return path[:len(top)] == top


def above(path):
    """The paths above a path, but the root, the shortest one first."""
    return [path[:many] for many in range(1, len(path))]


def with_above(paths):
    """These paths and those above them, each once, in ascending order, without the root."""
    return sorted({path[:many + 1] for path in paths for many in range(len(path))})


def by_parent(paths):
    """The paths of an ascending list, by their parents; the parents, too, are in the list, but for the root."""
    longer = {(): []}
    for path in paths:
        longer[path] = []
        longer[path[:-1]].append(path)
    return longer


def unused_name(paths):
    """The first of a, b, .., z, aa, ab, .. that stands in none of these paths."""
    used = {name: True for path in paths for name in path}
    at = 0
    while name_at(at) in used:
        at += 1
    return name_at(at)


def name_at(at):
    """The name with an index in a, b, .., z, aa, ab, .."""
    name = ""
    left = at + 1
    while left > 0:
        left, letter = divmod(left - 1, len(LETTERS))
        name = LETTERS[letter] + name
    return name
