"""Caches: steps that were made before, with their readings."""

from recipelayers.kinds import are_parts, is_node, is_path
from recipelayers.runs import Run
from recipelayers.steps import is_step


class Cache:
    """Steps without arguments that are kept with their readings."""

    def __init__(self):
        self._kept = {}

    def __len__(self):
        return len(self._kept)

    def __contains__(self, thing):
        return is_pair(thing) and key_of(thing[0], thing[1]) in self._kept

    def branch(self):
        """A Cache that keeps the same and goes on independently."""
        cache = Cache()
        cache._kept = dict(self._kept)
        return cache

    def fill(self, run):
        """Keep all steps of a Run; how many of their pairs are new."""
        before = len(self._kept)
        for _, _, step, told in run.pairs():
            self._kept[key_of(step, told)] = True
        return len(self._kept) - before

    def would(self, recipe, inputs, arguments):
        """The tuples (name, at, hit) of all steps in order: whether each is kept with the reading that it has."""
        pairs = Run(recipe, inputs, arguments).pairs()
        return [(name, at, key_of(step, told) in self._kept) for name, at, step, told in pairs]

    def make(self, recipe, inputs, arguments):
        """Run a recipe and keep its steps; its Tree, and the tuples (name, at) of the steps that were no hits."""
        run = Run(recipe, inputs, arguments)
        made = []
        for name, at, step, told in run.pairs():
            key = key_of(step, told)
            if key not in self._kept:
                made.append((name, at))
                self._kept[key] = True
        return (run.tree(), made)


def key_of(step, told):
    """The key of a step and a reading. It is a string, as contents may lie deep within one another."""
    return repr((step, told))


def is_pair(thing):
    """Whether thing is a tuple of a step and what may be a reading."""
    return isinstance(thing, tuple) and len(thing) == 2 and is_step(thing[0]) and is_reading(thing[1])


def is_reading(thing):
    """Whether thing may be the reading of some step."""
    if isinstance(thing, list):
        return all([is_row_read(row) for row in thing])
    # What is read for rights, too, is a tuple of contents: ("file", content) or ("folder",).
    return thing is None or are_parts(thing)


def is_row_read(thing):
    """Whether thing may be a row of what a copy reads."""
    return isinstance(thing, tuple) and len(thing) == 2 and is_path(thing[0]) and is_node(thing[1])
