"""Which layers tell what a place brings, and whether the end does."""

from recipelayers.stale import stale
from recipelayers.studies import Study


def telling(recipe, inputs, arguments, place, *, limit=400):
    """The tuples (name, at) of the steps that are stale for a place alone, and whether the tree is another one, too."""
    places = [place]
    steps = stale(recipe, inputs, arguments, places, limit=limit)
    return (steps, Study(recipe, inputs, arguments, places).may_end_otherwise(limit))
